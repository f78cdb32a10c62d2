package wordcut

import (
	"wordcut/api"
	"wordcut/kinds"
)

// stop is a boundary, with the kind of the piece that ends there.
type stop struct {
	place, kind int
}

// Walk goes from boundary to boundary of a text.
type Walk struct {
	stops []stop // in rising order
	at    int    // which of the stops the walk is at
}

// Begin begins a walk (P12).
func (d *Dict) Begin(text string) (*Walk, api.Errno) {
	places, fault := d.Cut(text)
	if fault != api.OK {
		return nil, fault
	}
	w := &Walk{}
	from := 0
	for _, place := range places {
		// At the boundary 0 the piece is empty, which is of the kind None.
		kind := kinds.Of(text[from:place], &d.words)
		w.stops = append(w.stops, stop{place: place, kind: kind})
		from = place
	}
	return w, api.OK
}

// here answers the stop where the walk is.
func (w *Walk) here() stop {
	if w.at < 0 || w.at >= len(w.stops) {
		return stop{}
	}
	return w.stops[w.at]
}

// visit goes to a stop and answers its boundary; if there is none such the walk
// stays.
func (w *Walk) visit(i int) int {
	if i < 0 || i >= len(w.stops) {
		return api.Done
	}
	w.at = i
	return w.stops[i].place
}

// below tells how many boundaries are below k.
func (w *Walk) below(k int) int {
	count := 0
	for count < len(w.stops) && w.stops[count].place < k {
		count++
	}
	return count
}

// upTo tells how many boundaries are not above k. (It is not asked for as those
// below k+1: the greatest int has none above it.)
func (w *Walk) upTo(k int) int {
	count := 0
	for count < len(w.stops) && w.stops[count].place <= k {
		count++
	}
	return count
}

// Place tells where the walk is (P12).
func (w *Walk) Place() int { return w.here().place }

// Kind tells the kind of the piece that ends there (P12).
func (w *Walk) Kind() int { return w.here().kind }

// First goes to the first boundary (P13).
func (w *Walk) First() int { return w.visit(0) }

// Last goes to the last boundary (P13).
func (w *Walk) Last() int { return w.visit(len(w.stops) - 1) }

// Next goes to the next boundary (P13).
func (w *Walk) Next() int {
	next := w.at + 1
	return w.visit(next)
}

// Previous goes to the boundary ahead (P13).
func (w *Walk) Previous() int {
	previous := w.at - 1
	return w.visit(previous)
}

// Following goes to the first boundary above k (P14).
func (w *Walk) Following(k int) int {
	next := w.upTo(k)
	if next >= len(w.stops) {
		w.Last()
		return api.Done
	}
	return w.visit(next)
}

// Preceding goes to the last boundary below k (P14).
func (w *Walk) Preceding(k int) int {
	count := w.below(k)
	if count == 0 {
		w.First()
		return api.Done
	}
	return w.visit(count - 1)
}

// Is tells whether k is a boundary, and goes there (P14).
func (w *Walk) Is(k int) bool {
	next := w.below(k)
	if next >= len(w.stops) {
		w.Last()
		return false
	}
	place := w.visit(next)
	return place == k
}
