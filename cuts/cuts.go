// Package cuts: cuts texts into pieces.
package cuts

import (
	"wordcut/runs"
	"wordcut/sorts"
	"wordcut/words"
)

// Boundaries answers the boundaries of a text that is cut by a set of words.
func Boundaries(text string, set *words.Set) []int {
	places := []int{0}
	at := 0
	for at < len(text) {
		sort, end := runs.Run(text, at)
		// A run is cut by itself: what stands beside it must not matter.
		ends := cutRun(text[at:end], sort, set)
		for _, piece := range ends {
			places = append(places, at+piece)
		}
		at = end
	}
	return places
}

// cutRun answers where the pieces of a run end.
func cutRun(run string, sort int, set *words.Set) []int {
	if sort != sorts.Small && sort != sorts.Capital {
		return []int{len(run)}
	}
	stand := standing(run, set)
	if sort == sorts.Small {
		return cutSmall(run, stand)
	}
	return cutCapitals(stand)
}
