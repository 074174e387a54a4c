package pack_test

import (
	"math"
	"strings"
	"testing"

	"chancel/api"
)

// cmdWith is a command that may be, changed by f.
func cmdWith(f func(c *api.Cmd)) api.Cmd {
	c := someCmd()
	f(&c)
	return c
}

func TestP701Cmd(t *testing.T) {
	cmds.written(t, someCmd(), []byte("\x03"+"\x01\x02\x03\x04\x05\x06\x07\x08"+"\x02"+"\x00\x06rule_1"+"\x00\x09permit \x00\xff"))
	cmds.written(t, api.Cmd{Client: 8, Seq: 258, Kind: 5}, []byte("\x08"+"\x00\x00\x00\x00\x00\x00\x01\x02"+"\x05"+"\x00\x00"+"\x00\x00"))
}

func TestP701Bounds(t *testing.T) {
	for _, f := range []func(c *api.Cmd){
		func(c *api.Cmd) { c.Kind = 1 },
		func(c *api.Cmd) { c.Kind = 3 },
		func(c *api.Cmd) { c.Kind = 4 },
		func(c *api.Cmd) { c.Kind = 5 },
		func(c *api.Cmd) { c.Client = 1 },
		func(c *api.Cmd) { c.Client = 8 },
		func(c *api.Cmd) { c.Seq = 1 },
		func(c *api.Cmd) { c.Seq = math.MaxInt64 },
		func(c *api.Cmd) { c.Name = "" },
		func(c *api.Cmd) { c.Text = "" },
		func(c *api.Cmd) { c.Name, c.Text = "", "" },
		func(c *api.Cmd) { c.Name = strings.Repeat("a", 12) },
		func(c *api.Cmd) { c.Name = strings.Repeat("\xff", 12) },
		func(c *api.Cmd) { c.Name = "no name: ü" },
		func(c *api.Cmd) { c.Text = strings.Repeat("t", 255) },
		func(c *api.Cmd) { c.Text = strings.Repeat("t", 256) },
		func(c *api.Cmd) { c.Text = strings.Repeat("t", 600) },
		func(c *api.Cmd) { c.Text = strings.Repeat("\x00", 600) },
		func(c *api.Cmd) { c.Name, c.Text = strings.Repeat("a", 12), strings.Repeat("ü", 300) },
	} {
		c := cmdWith(f)
		cmds.written(t, c, plainCmd(c))
	}
}

func TestP701EachSeq(t *testing.T) {
	for _, n := range edges() {
		c := cmdWith(func(c *api.Cmd) { c.Seq = n })
		if n >= 1 {
			cmds.written(t, c, plainCmd(c))
			continue
		}
		cmds.refused(t, c, api.ErrArg)
		cmds.unread(t, plainCmd(c), api.ErrArg)
	}
}

// Each byte that may stand for a kind or a client; and numbers that would be such a byte, if their upper bytes were dropped.
func TestP701EachKindAndClient(t *testing.T) {
	for n := range 256 {
		ofKind := cmdWith(func(c *api.Cmd) { c.Kind = n })
		if 1 <= n && n <= 5 {
			cmds.written(t, ofKind, plainCmd(ofKind))
		} else {
			cmds.refused(t, ofKind, api.ErrKind)
			cmds.unread(t, plainCmd(ofKind), api.ErrKind)
		}
		ofClient := cmdWith(func(c *api.Cmd) { c.Client = n })
		if 1 <= n && n <= 8 {
			cmds.written(t, ofClient, plainCmd(ofClient))
		} else {
			cmds.refused(t, ofClient, api.ErrArg)
			cmds.unread(t, plainCmd(ofClient), api.ErrArg)
		}
	}
	for _, n := range []int{-1, -255, 257, 1<<32 + 1, math.MaxInt64, math.MinInt64, math.MinInt64 + 1} {
		cmds.refused(t, cmdWith(func(c *api.Cmd) { c.Kind = n }), api.ErrKind)
		cmds.refused(t, cmdWith(func(c *api.Cmd) { c.Client = n }), api.ErrArg)
	}
}

func TestP701Long(t *testing.T) {
	for _, f := range []func(c *api.Cmd){
		func(c *api.Cmd) { c.Name = strings.Repeat("a", 13) },
		func(c *api.Cmd) { c.Name = strings.Repeat("ü", 7) },
		func(c *api.Cmd) { c.Name = strings.Repeat("a", 13); c.Text = "" },
		func(c *api.Cmd) { c.Text = strings.Repeat("t", 601) },
		func(c *api.Cmd) { c.Text = strings.Repeat("t", 601); c.Name = "" },
		func(c *api.Cmd) { c.Text = strings.Repeat("ü", 301) },
		func(c *api.Cmd) { c.Name, c.Text = strings.Repeat("a", 65535), strings.Repeat("t", 65535) },
	} {
		c := cmdWith(f)
		cmds.refused(t, c, api.ErrLong)
		cmds.unread(t, plainCmd(c), api.ErrLong)
	}
	// So long that its count would be one that may be, if its upper bytes were dropped.
	cmds.refused(t, cmdWith(func(c *api.Cmd) { c.Name = strings.Repeat("a", 65536) }), api.ErrLong)
	cmds.refused(t, cmdWith(func(c *api.Cmd) { c.Text = strings.Repeat("t", 65537) }), api.ErrLong)
}

// Of several faults the promise's first one is told, of a command and of its bytes; one of the bytes themselves ahead of them all.
func TestP701SeveralFaults(t *testing.T) {
	kind := func(c *api.Cmd) { c.Kind = 6 }
	client := func(c *api.Cmd) { c.Client = 9 }
	seq := func(c *api.Cmd) { c.Seq = -1 }
	name := func(c *api.Cmd) { c.Name = strings.Repeat("a", 13) }
	text := func(c *api.Cmd) { c.Text = strings.Repeat("t", 601) }
	for _, x := range []struct {
		faults []func(c *api.Cmd)
		want   api.Errno
	}{
		{[]func(c *api.Cmd){kind, client}, api.ErrKind},
		{[]func(c *api.Cmd){kind, seq}, api.ErrKind},
		{[]func(c *api.Cmd){kind, name}, api.ErrKind},
		{[]func(c *api.Cmd){kind, text}, api.ErrKind},
		{[]func(c *api.Cmd){kind, client, seq, name, text}, api.ErrKind},
		{[]func(c *api.Cmd){client, seq}, api.ErrArg},
		{[]func(c *api.Cmd){client, name}, api.ErrArg},
		{[]func(c *api.Cmd){seq, text}, api.ErrArg},
		{[]func(c *api.Cmd){client, seq, name, text}, api.ErrArg},
		{[]func(c *api.Cmd){name, text}, api.ErrLong},
	} {
		c := someCmd()
		for _, f := range x.faults {
			f(&c)
		}
		cmds.refused(t, c, x.want)
		b := plainCmd(c)
		cmds.unread(t, b, x.want)
		cmds.unread(t, b[:len(b)-1], api.ErrCut)
		cmds.unread(t, append(b, 0), api.ErrMore)
	}
}

func TestP701CutAndMore(t *testing.T) {
	for _, c := range []api.Cmd{someCmd(), {Client: 1, Seq: 1, Kind: 1}, {Client: 1, Seq: 1, Kind: 1, Name: "a"}, cmdWith(func(c *api.Cmd) { c.Text = strings.Repeat("t", 600) })} {
		b := cmds.must(t, c)
		for k := range b {
			cmds.unread(t, b[:k], api.ErrCut)
		}
		for k := range 300 {
			cmds.unread(t, append(b, filled(k+1, byte(k))...), api.ErrMore)
		}
		cmds.unread(t, append(b, b...), api.ErrMore)
	}
	cmds.unread(t, nil, api.ErrCut)
	cmds.unread(t, []byte{}, api.ErrCut)
}

// A count that is not that of the bytes behind it.
func TestP701Counts(t *testing.T) {
	head := "\x01" + "\x00\x00\x00\x00\x00\x00\x00\x01" + "\x01"
	for s, want := range map[string]api.Errno{
		"\x00\x01a" + "\x00\x02bc":   api.OK,
		"\x00\x00" + "\x00\x02bc":    api.OK,
		"\x00\x00" + "\x00\x03bc":    api.ErrCut,
		"\x00\x00" + "\x00\x01bc":    api.ErrMore,
		"\x00\x00" + "\x01\x02bc":    api.ErrCut,
		"\x00\x00" + "\xff\xffbc":    api.ErrCut,
		"\xff\xffa" + "\x00\x02bc":   api.ErrCut,
		"\x80\x00a" + "\x00\x02bc":   api.ErrCut,
		"\x00\x05a" + "\x00\x02bc":   api.ErrCut,
		"\x00\x06a" + "\x00\x02bc":   api.ErrCut,
		"\x00\x03a" + "\x00\x02bc":   api.ErrCut,
		"\x00\x03a\x00\x00\x00\x00":  api.OK,
		"\x00\x03a\x00\x00\x00\x00b": api.ErrMore,
		"\x00\x03a\x00\x00\x00":      api.ErrCut,
		"\x00\x00\x00\x00\x00\x00":   api.ErrMore,
	} {
		if err := cmds.settled(t, []byte(head+s)); err != want {
			t.Errorf("%x: %v; want %v", s, err, want)
		}
	}
}

// No byte of a command can be turned without another command's bytes, or none, coming of it.
func TestP704EachByteOfACmd(t *testing.T) {
	b := cmds.must(t, someCmd())
	for k := range b {
		for by := 1; by < 256; by++ {
			turned := append([]byte{}, b...)
			turned[k] ^= byte(by)
			cmds.settled(t, turned)
			if c, _ := cmds.read(turned); c == someCmd() {
				t.Errorf("byte %d turned by %x: the same command", k, by)
			}
		}
	}
}
