// Package kinds: the kinds of pieces.
package kinds

import (
	"wordcut/api"
	"wordcut/runs"
	"wordcut/sorts"
	"wordcut/words"
)

// Of answers the kind of a piece of a text that is cut by a set of words; None,
// if the piece has no bytes.
func Of(piece string, set *words.Set) int {
	sort, _ := runs.Cluster(piece, 0)
	switch sort {
	case sorts.Digit:
		return api.Number
	case sorts.Blank:
		return api.Blank
	case sorts.Small, sorts.Capital:
		return ofLetters(piece, set)
	}
	return api.None
}

// ofLetters asks the set itself, not how the piece was cut: a cluster that was
// taken at the cost Unknown may be a word of a higher cost.
func ofLetters(piece string, set *words.Set) int {
	if set.Has(piece) {
		return api.Word
	}
	return api.Strange
}
