// Package wordcut: texts cut into words by a dictionary: see DOC.md.
package wordcut

import (
	"wordcut/api"
	"wordcut/cuts"
	"wordcut/entries"
	"wordcut/images"
	"wordcut/words"
)

// Dict is a dictionary.
type Dict struct {
	words words.Set
}

// Check tells whether a text is a list of words (P3).
func Check(list string) (api.Errno, int) {
	_, fault, place := entries.Read(list)
	return fault, place
}

// Build makes a dictionary of lists (P4).
func Build(lists []string) (*Dict, api.Errno) {
	if len(lists) > api.MaxLists {
		return nil, api.ErrMany
	}
	d := &Dict{}
	for _, list := range lists {
		read, fault, _ := entries.Read(list)
		if fault != api.OK {
			return nil, fault
		}
		d.take(read)
	}
	// Only now: a later entry may put out what was one word too many.
	if d.words.Size() > api.MaxWords {
		return nil, api.ErrMany
	}
	return d, api.OK
}

// take lets entries have their way, a later one over an earlier one.
func (d *Dict) take(read []entries.Entry) {
	for _, entry := range read {
		if entry.In {
			d.words.Put(entry.Word, entry.Cost)
		} else {
			d.words.Drop(entry.Word)
		}
	}
}

// Size tells how many words there are (P5).
func (d *Dict) Size() int { return d.words.Size() }

// Prefixes tells the words with which a text begins (P5).
func (d *Dict) Prefixes(text string) []api.Hit { return d.words.Prefixes(text) }

// Image writes a dictionary down (P6).
func (d *Dict) Image() string { return images.Write(&d.words) }

// Load reads an image (P7).
func Load(image string) (*Dict, api.Errno) {
	set, is := images.Read(image)
	if !is {
		return nil, api.ErrImage
	}
	return &Dict{words: set}, api.OK
}

// Cut tells the boundaries of a text (P8 to P11).
func (d *Dict) Cut(text string) ([]int, api.Errno) {
	if len(text) > api.MaxText {
		return nil, api.ErrLong
	}
	places := cuts.Boundaries(text, &d.words)
	return places, api.OK
}
