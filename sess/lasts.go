package sess

import "chancel/api"

// maxVerdict is the greatest number that a verdict may have.
const maxVerdict = 255

// last is the last command of a client; its zero value is none.
type last struct {
	seq     int
	verdict api.Errno
}

// lasts has the last command of each client, client 1's first.
type lasts [api.MaxClient]last

// lastsOf is one of numbers and verdicts, client by client.
func lastsOf(seqs []int, verdicts []api.Errno) (lasts, api.Errno) {
	var all lasts
	if len(seqs) != len(all) || len(verdicts) != len(all) {
		return lasts{}, api.ErrArg
	}
	for i, seq := range seqs {
		verdict := verdicts[i]
		if seq < 0 || verdict < 0 || verdict > maxVerdict {
			return lasts{}, api.ErrArg
		}
		// The verdict of no command counts for nothing: none is kept.
		if seq > 0 {
			all[i] = last{seq: seq, verdict: verdict}
		}
	}
	return all, api.OK
}

// of is where a client's last command stands; nil, if there is no such client.
func (l *lasts) of(client int) *last {
	if client < 1 || client > len(l) {
		return nil
	}
	return &l[client-1]
}
