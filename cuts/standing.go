package cuts

import (
	"wordcut/api"
	"wordcut/runs"
	"wordcut/words"
)

// standing answers, for each place of a run, the words that stand there, the
// shortest first. Each of them ends within the run.
func standing(run string, set *words.Set) [][]api.Hit {
	var all [][]api.Hit
	for at := 0; at < len(run); at++ {
		hits := standingAt(run, at, set)
		all = append(all, hits)
	}
	return all
}

func standingAt(run string, at int, set *words.Set) []api.Hit {
	if !runs.Begins(run, at) {
		return nil
	}
	var hits []api.Hit
	found := set.Prefixes(run[at:])
	for _, hit := range found {
		end := at + hit.Length
		if end == len(run) || runs.Begins(run, end) {
			hits = append(hits, hit)
		}
	}
	return hits
}
