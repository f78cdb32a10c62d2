package cuts

import "wordcut/api"

// cutCapitals answers where the pieces of a run of capitals end.
func cutCapitals(stand [][]api.Hit) []int {
	reach := lookAhead(stand)
	var ends []int
	at := 0
	for at < len(stand) {
		if len(stand[at]) > 0 {
			at = firstWord(at, stand[at], reach)
		} else {
			at = nextStanding(at, stand)
		}
		ends = append(ends, at)
	}
	return ends
}

// lookAhead answers, for each place, how far rows of two words at most reach:
// what the second and the third word add to a first one that ends there.
func lookAhead(stand [][]api.Hit) []int {
	var reach []int
	for at := 0; at <= len(stand); at++ {
		reach = append(reach, at)
	}
	reach = oneMore(stand, reach)
	return oneMore(stand, reach)
}

// oneMore answers how far rows reach that may have one word more.
func oneMore(stand [][]api.Hit, reach []int) []int {
	var more []int
	for at, hits := range stand {
		most := at
		for _, hit := range hits {
			far := reach[at+hit.Length]
			if far > most {
				most = far
			}
		}
		more = append(more, most)
	}
	return append(more, len(stand))
}

// firstWord answers where the longest of these words ends that begins a row
// which reaches farthest.
func firstWord(at int, hits []api.Hit, reach []int) int {
	best := at
	most := at
	for _, hit := range hits {
		end := at + hit.Length
		// The words come the shortest first: a later one that reaches as far
		// is the longer one.
		if reach[end] >= most {
			best = end
			most = reach[end]
		}
	}
	return best
}

// nextStanding answers the next place behind this one at which a word stands,
// or the run's end.
func nextStanding(at int, stand [][]api.Hit) int {
	next := at + 1
	for next < len(stand) && len(stand[next]) == 0 {
		next++
	}
	return next
}
