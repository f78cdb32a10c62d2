// Package runs: the clusters and the runs that a text is made of.
package runs

import "wordcut/sorts"

// Begins tells whether a cluster begins at a place of a text.
func Begins(text string, at int) bool {
	if at < 0 || at >= len(text) {
		return false
	}
	return at == 0 || sorts.Of(text[at]) != sorts.Mark
}

// Cluster answers the sort of the cluster that begins at a place of a text,
// and where it ends; the place itself, if the text has no byte there.
func Cluster(text string, at int) (int, int) {
	if at < 0 || at >= len(text) {
		return sorts.Other, at
	}
	end := at + 1
	for end < len(text) && sorts.Of(text[end]) == sorts.Mark {
		end++
	}
	sort := sorts.Of(text[at])
	if sort == sorts.Mark {
		return sorts.Other, end
	}
	return sort, end
}

// Run answers the sort of the run that begins at a place of a text, and where
// it ends; the place itself, if the text has no byte there.
func Run(text string, at int) (int, int) {
	sort, end := Cluster(text, at)
	if sort == sorts.Other {
		return sort, end
	}
	for end < len(text) {
		next, after := Cluster(text, end)
		if next != sort {
			return sort, end
		}
		end = after
	}
	return sort, end
}
