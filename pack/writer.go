package pack

// writer lays bytes down from the left, into room that is made once, for all of them: what is answered has none to spare.
type writer struct {
	room []byte // what is still empty
}

func (w *writer) put(b ...byte) {
	w.room = w.room[copy(w.room, b):]
}

// number writes the lowest so many bytes of n, the highest of them first.
func (w *writer) number(n, size int) {
	for left := size - 1; left >= 0; left-- {
		w.put(byte(n >> (8 * left)))
	}
}

func (w *writer) truth(yes bool) {
	if yes {
		w.number(1, byteSize)
		return
	}
	w.number(0, byteSize)
}

func (w *writer) bytes(b []byte) {
	w.number(len(b), countSize)
	w.put(b...)
}
