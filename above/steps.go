package above

import "chancel/api"

// steps tells for a uid those that are one step away from it.
type steps map[api.Uid][]api.Uid

// upward has the steps from each entity to its parents. The lists are those that were handed in: they are only read.
func upward(l []api.Entity) steps {
	s := steps{}
	for _, e := range l {
		s[e.U] = e.Parents
	}
	return s
}

// downward has the steps from each parent to those whose parent it is.
func downward(l []api.Entity) steps {
	s := steps{}
	for _, e := range l {
		for _, p := range e.Parents {
			s[p] = append(s[p], e.U)
		}
	}
	return s
}

// uids are some of them, each once.
type uids map[api.Uid]struct{}

func (m uids) has(u api.Uid) bool {
	_, is := m[u]
	return is
}

// reach tells all that some steps lead to, or none: those that it starts from are met, too.
func (s steps) reach(from ...api.Uid) uids {
	met := uids{}
	var waiting []api.Uid
	// Each one waits once, when it is first met: so circles end, and ways that part and meet again are not gone twice.
	meet := func(l []api.Uid) {
		for _, u := range l {
			if !met.has(u) {
				met[u] = struct{}{}
				waiting = append(waiting, u)
			}
		}
	}
	meet(from)
	for len(waiting) > 0 {
		last := len(waiting) - 1
		u := waiting[last]
		waiting = waiting[:last]
		meet(s[u])
	}
	return met
}
