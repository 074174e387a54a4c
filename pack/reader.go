package pack

import "chancel/api"

// reader reads bytes from the left. Where they end too early it is cut, and has nothing left: so all is read to its end, and what was read counts for nothing.
type reader struct {
	rest []byte
	cut  bool
	bad  bool
}

// read reads all of b by a rule. What may not be is told by check, once all is read: a fault of the bytes stands ahead of it, wherever it is.
func read[T any](b []byte, rule func(*reader) T, check func(T) api.Errno) (T, api.Errno) {
	var none T
	r := reader{rest: b}
	made := rule(&r)
	if err := r.fault(); err != api.OK {
		return none, err
	}
	if err := check(made); err != api.OK {
		return none, err
	}
	return made, api.OK
}

// fault tells what is wrong with the bytes when all is read.
func (r *reader) fault() api.Errno {
	switch {
	case r.cut:
		return api.ErrCut
	case r.bad:
		return api.ErrBad
	case len(r.rest) > 0:
		return api.ErrMore
	}
	return api.OK
}

// next takes the next n bytes. They are still those that were handed in: whoever answers them copies them.
func (r *reader) next(n int) []byte {
	if n > len(r.rest) {
		r.rest, r.cut = nil, true
		return nil
	}
	front := r.rest[:n]
	r.rest = r.rest[n:]
	return front
}

// number reads one of so many bytes; one of intSize bytes has its sign in the highest bit.
func (r *reader) number(size int) int {
	n := 0
	for _, b := range r.next(size) {
		n = n<<8 | int(b)
	}
	return n
}

func (r *reader) truth() bool {
	n := r.number(byteSize)
	r.bad = r.bad || n > 1
	return n == 1
}

func (r *reader) text() string {
	return string(r.next(r.number(countSize)))
}

func (r *reader) bytes() []byte {
	return copyOf(r.next(r.number(countSize)))
}

func copyOf(b []byte) []byte {
	own := make([]byte, len(b))
	copy(own, b)
	return own
}
