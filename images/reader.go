package images

import (
	"wordcut/api"
	"wordcut/words"
)

type reader struct {
	image string
	at    int
	short bool // more was asked for than there is
}

func (r *reader) takeByte() int {
	if r.at >= len(r.image) {
		r.short = true
		return 0
	}
	b := r.image[r.at]
	r.at++
	return int(b)
}

// takeNumber reads a number in two bytes, the low one first.
func (r *reader) takeNumber() int {
	low := r.takeByte()
	high := r.takeByte()
	return low + 256*high
}

func (r *reader) takeText(length int) string {
	from := r.at
	if length > len(r.image)-from {
		r.short = true
		return ""
	}
	r.at = from + length
	return r.image[from:r.at]
}

// takeWord reads a word, whose beginning may be that of the one ahead, and its
// cost; false, if there is no word with a cost.
func (r *reader) takeWord(ahead string) (string, int, bool) {
	common := r.takeByte()
	more := r.takeByte()
	rest := r.takeText(more)
	cost := r.takeNumber()
	if r.short || common > len(ahead) || cost > api.MaxCost {
		return "", 0, false
	}
	word := ahead[:common] + rest
	return word, cost, words.Is(word)
}
