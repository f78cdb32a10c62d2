package cuts

import (
	"wordcut/api"
	"wordcut/runs"
)

// cutSmall answers where the pieces of a run of small letters end: the steps
// of the cheapest way.
func cutSmall(run string, stand [][]api.Hit) []int {
	next := firstSteps(run, stand)
	var ends []int
	at := 0
	for at < len(run) {
		at = next[at]
		ends = append(ends, at)
	}
	return ends
}

// firstSteps answers, for each beginning of a cluster, where the first step of
// the cheapest way from there to the run's end ends.
func firstSteps(run string, stand [][]api.Hit) []int {
	next := make([]int, len(run)+1)
	sums := make([]int, len(run)+1)
	for at := len(run) - 1; at >= 0; at-- {
		// No word that stands here is shorter than the cluster, and the words
		// come the shortest first: so of first steps of ways of the same sum
		// the one that ends first is kept.
		_, cluster := runs.Cluster(run, at)
		next[at] = cluster
		sums[at] = api.Unknown + sums[cluster]
		for _, hit := range stand[at] {
			end := at + hit.Length
			sum := hit.Cost + sums[end]
			if sum < sums[at] {
				next[at] = end
				sums[at] = sum
			}
		}
	}
	return next
}
