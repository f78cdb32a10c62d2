// Package images: writes sets of words down as images, and reads them.
package images

import (
	"wordcut/api"
	"wordcut/words"
)

const name = "WC"

// Write answers the image of a set.
func Write(set *words.Set) string {
	var w writer
	size := set.Size()
	w.putText(name)
	w.putNumber(size)
	ahead := ""
	for i := 0; i < size; i++ {
		word, cost := set.At(i)
		w.putWord(ahead, word, cost)
		ahead = word
	}
	w.seal()
	return string(w.image)
}

// Read answers the set of which a text is the image, and true; or false, if
// it is the image of none with at most MaxWords words.
func Read(image string) (words.Set, bool) {
	set, whole := readWords(image)
	if !whole {
		return words.Set{}, false
	}
	// A set has one image alone. So this tells at once whether the name is
	// there, the words are in order, each one once, and share as many bytes
	// as they can, and whether the last byte is right and the last.
	written := Write(&set)
	if written != image {
		return words.Set{}, false
	}
	return set, true
}

// readWords answers the words that a text has if it is an image, and true;
// or false, if it cannot be one.
func readWords(image string) (words.Set, bool) {
	var set words.Set
	r := reader{image: image, at: len(name)}
	count := r.takeNumber()
	if r.short || count > api.MaxWords {
		return set, false
	}
	ahead := ""
	for i := 0; i < count; i++ {
		word, cost, whole := r.takeWord(ahead)
		if !whole {
			return set, false
		}
		set.Put(word, cost)
		ahead = word
	}
	return set, true
}
