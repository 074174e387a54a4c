package pack

import (
	"bytes"
	"slices"

	"chancel/api"
)

const (
	maxKind    = 15
	maxMsgData = 60000
)

// Msg writes a message.
func Msg(m api.Msg) ([]byte, api.Errno) {
	if err := checkMsg(m); err != api.OK {
		return nil, err
	}
	b := make([]byte, msgSize(m))
	w := writer{room: b}
	w.head(m)
	w.number(len(m.Entries), byteSize)
	for i, e := range m.Entries {
		w.number(m.Terms[i], intSize)
		w.number(m.Kinds[i], intSize)
		w.bytes(e)
	}
	w.number(len(m.Members), byteSize)
	for _, id := range m.Members {
		w.number(id, intSize)
	}
	w.bytes(m.Data)
	return b, api.OK
}

// ParseMsg reads a message.
func ParseMsg(b []byte) (api.Msg, api.Errno) {
	return read(b, (*reader).msg, checkMsg)
}

// SameMsg tells whether all is the same in both.
func SameMsg(a, b api.Msg) bool {
	return sameHead(a, b) &&
		slices.Equal(a.Terms, b.Terms) &&
		slices.Equal(a.Kinds, b.Kinds) &&
		slices.EqualFunc(a.Entries, b.Entries, bytes.Equal) &&
		slices.Equal(a.Members, b.Members) &&
		bytes.Equal(a.Data, b.Data)
}

func sameHead(a, b api.Msg) bool {
	return a.From == b.From && a.To == b.To && a.Kind == b.Kind &&
		a.Term == b.Term && a.Index == b.Index && a.Last == b.Last &&
		a.Commit == b.Commit && a.Seq == b.Seq && a.Yes == b.Yes
}

func checkMsg(m api.Msg) api.Errno {
	switch {
	case m.Kind < 1 || m.Kind > maxKind:
		return api.ErrKind
	case len(m.Terms) != len(m.Entries) || len(m.Kinds) != len(m.Entries):
		return api.ErrArg
	case len(m.Entries) > api.MaxLog || len(m.Members) > api.MaxNodes:
		return api.ErrMany
	case slices.ContainsFunc(m.Entries, isLongEntry) || len(m.Data) > maxMsgData:
		return api.ErrLong
	}
	return api.OK
}

func isLongEntry(e []byte) bool {
	return len(e) > api.MaxData
}

func msgSize(m api.Msg) int {
	head := 7*intSize + 2*byteSize
	entries := byteSize
	for _, e := range m.Entries {
		entries += 2*intSize + countSize + len(e)
	}
	members := byteSize + intSize*len(m.Members)
	return head + entries + members + countSize + len(m.Data)
}

// head writes what stands ahead of the lists.
func (w *writer) head(m api.Msg) {
	w.number(m.From, intSize)
	w.number(m.To, intSize)
	w.number(m.Kind, byteSize)
	w.number(m.Term, intSize)
	w.number(m.Index, intSize)
	w.number(m.Last, intSize)
	w.number(m.Commit, intSize)
	w.number(m.Seq, intSize)
	w.truth(m.Yes)
}

// head reads what stands ahead of the lists.
func (r *reader) head() api.Msg {
	var m api.Msg
	m.From = r.number(intSize)
	m.To = r.number(intSize)
	m.Kind = r.number(byteSize)
	m.Term = r.number(intSize)
	m.Index = r.number(intSize)
	m.Last = r.number(intSize)
	m.Commit = r.number(intSize)
	m.Seq = r.number(intSize)
	m.Yes = r.truth()
	return m
}

func (r *reader) msg() api.Msg {
	m := r.head()
	for range r.number(byteSize) {
		m.Terms = append(m.Terms, r.number(intSize))
		m.Kinds = append(m.Kinds, r.number(intSize))
		m.Entries = append(m.Entries, r.bytes())
	}
	for range r.number(byteSize) {
		m.Members = append(m.Members, r.number(intSize))
	}
	m.Data = r.bytes()
	return m
}
