package images

type writer struct {
	image []byte
}

// putByte writes a number below 256.
func (w *writer) putByte(n int) {
	w.image = append(w.image, byte(n))
}

// putNumber writes a number below 65536, its low byte first.
func (w *writer) putNumber(n int) {
	w.putByte(n % 256)
	w.putByte(n / 256)
}

func (w *writer) putText(text string) {
	w.image = append(w.image, text...)
}

// putWord writes a word and its cost, without the bytes that it has in common
// with the word ahead.
func (w *writer) putWord(ahead, word string, cost int) {
	common := inCommon(ahead, word)
	rest := word[common:]
	w.putByte(common)
	w.putByte(len(rest))
	w.putText(rest)
	w.putNumber(cost)
}

// inCommon answers how many bytes at their beginnings two words share: never
// more than either has.
func inCommon(a, b string) int {
	n := 0
	for n < len(a) && n < len(b) && a[n] == b[n] {
		n++
	}
	return n
}

// seal writes the byte by which the sum of all becomes a multiple of 256.
func (w *writer) seal() {
	sum := 0
	for _, b := range w.image {
		sum += int(b)
	}
	w.putByte((256 - sum%256) % 256)
}
