package pack

import "chancel/api"

// Cmd writes a command.
func Cmd(c api.Cmd) ([]byte, api.Errno) {
	if err := checkCmd(c); err != api.OK {
		return nil, err
	}
	b := make([]byte, cmdSize(c))
	w := writer{room: b}
	w.number(c.Client, byteSize)
	w.number(c.Seq, intSize)
	w.number(c.Kind, byteSize)
	w.bytes([]byte(c.Name))
	w.bytes([]byte(c.Text))
	return b, api.OK
}

// ParseCmd reads a command.
func ParseCmd(b []byte) (api.Cmd, api.Errno) {
	return read(b, (*reader).cmd, checkCmd)
}

func checkCmd(c api.Cmd) api.Errno {
	switch {
	case c.Kind < api.CSchema || c.Kind > api.CGone:
		return api.ErrKind
	case c.Client < 1 || c.Client > api.MaxClient || c.Seq < 1:
		return api.ErrArg
	case len(c.Name) > api.MaxIdent || len(c.Text) > api.MaxText:
		return api.ErrLong
	}
	return api.OK
}

func cmdSize(c api.Cmd) int {
	return byteSize + intSize + byteSize + countSize + len(c.Name) + countSize + len(c.Text)
}

func (r *reader) cmd() api.Cmd {
	var c api.Cmd
	c.Client = r.number(byteSize)
	c.Seq = r.number(intSize)
	c.Kind = r.number(byteSize)
	c.Name = r.text()
	c.Text = r.text()
	return c
}
