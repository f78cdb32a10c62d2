// Package entries: reads the entries of lists.
package entries

import (
	"wordcut/api"
	"wordcut/sorts"
	"wordcut/words"
)

const maxDigits = 4

// Entry is what a list says of one word. Digits is the place of the cost's
// first digit; Cost and Digits are 0 if the word is out.
type Entry struct {
	Word   string
	In     bool
	Cost   int
	Digits int
}

// Read answers the entries of a list, or its error with the place that P3
// names. The words are parts of the list: whoever keeps one copies it.
func Read(list string) ([]Entry, api.Errno, int) {
	if len(list) > api.MaxList {
		return nil, api.ErrLong, 0
	}
	read, stop, whole := readAll(list)
	if !whole {
		return nil, api.ErrForm, stop
	}
	for _, entry := range read {
		if entry.Cost > api.MaxCost {
			return nil, api.ErrCost, entry.Digits
		}
	}
	return read, api.OK, 0
}

// readAll answers the entries and true, or the place of the first byte that
// cannot stand there and false.
func readAll(list string) ([]Entry, int, bool) {
	var read []Entry
	at := 0
	for at < len(list) {
		entry, end, whole := readEntry(list, at)
		if !whole {
			return nil, end, false
		}
		read = append(read, entry)
		if end >= len(list) {
			return read, end, true
		}
		if list[end] != ',' {
			return nil, end, false
		}
		at = end + 1
	}
	// The empty list is the only one that may end where an entry could begin:
	// behind a comma there must be one.
	return read, at, at == 0
}

// readEntry answers the entry at a place, the place behind it, and true; or
// the place of the first byte that cannot stand there, and false.
func readEntry(list string, at int) (Entry, int, bool) {
	end := words.End(list, at)
	if end == at || end >= len(list) {
		return Entry{}, end, false
	}
	word := list[at:end]
	if list[end] == '!' {
		return Entry{Word: word}, end + 1, true
	}
	if list[end] != '=' {
		return Entry{}, end, false
	}
	digits := end + 1
	end = digitsEnd(list, digits)
	if end == digits {
		return Entry{}, end, false
	}
	cost := number(list[digits:end])
	return Entry{Word: word, In: true, Cost: cost, Digits: digits}, end, true
}

// digitsEnd answers how far digits reach from a place on, maxDigits at most.
func digitsEnd(list string, at int) int {
	end := at
	for end < len(list) && end < at+maxDigits {
		if sorts.Of(list[end]) != sorts.Digit {
			return end
		}
		end++
	}
	return end
}

// number answers the number that a few digits write.
func number(digits string) int {
	n := 0
	for i := 0; i < len(digits); i++ {
		n = 10*n + int(digits[i]-'0')
	}
	return n
}
