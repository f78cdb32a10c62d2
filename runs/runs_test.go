package runs

import (
	"testing"

	"wordcut/sorts"
)

func TestBegins(t *testing.T) {
	for _, c := range []struct {
		text string
		want string // y where a cluster begins
	}{
		{"", ""}, {"a", "y"}, {"~", "y"}, {"~~", "yn"}, {"~~a", "yny"}, {"a~~b", "ynny"}, {" ~1.", "ynyy"},
	} {
		for at := range len(c.text) {
			if got := Begins(c.text, at); got != (c.want[at] == 'y') {
				t.Errorf("Begins(%q, %d) = %v", c.text, at, got)
			}
		}
		for _, at := range []int{-1, len(c.text), len(c.text) + 1} {
			if Begins(c.text, at) {
				t.Errorf("Begins(%q, %d) = true", c.text, at)
			}
		}
	}
}

func TestClustersAndRuns(t *testing.T) {
	for _, c := range []struct {
		text             string
		at, sort         int
		cluster, runsEnd int
	}{
		{"", 0, sorts.Other, 0, 0},
		{"a", -1, sorts.Other, -1, -1},
		{"a", 1, sorts.Other, 1, 1},
		{"a", 9, sorts.Other, 9, 9},
		{"a", 0, sorts.Small, 1, 1},
		{"ab~cD", 0, sorts.Small, 1, 4},
		{"ab~cD", 1, sorts.Small, 3, 4},
		{"ab~cD", 4, sorts.Capital, 5, 5},
		{"A~~B~", 0, sorts.Capital, 3, 5},
		{"1~23 ", 0, sorts.Digit, 2, 4},
		{"1~23 ", 4, sorts.Blank, 5, 5},
		{" ~ a", 0, sorts.Blank, 2, 3},
		{"~~a", 0, sorts.Other, 2, 2},
		{"~~.", 0, sorts.Other, 2, 2},
		{".~.", 0, sorts.Other, 2, 2},
		{"..", 0, sorts.Other, 1, 1},
	} {
		sort, end := Cluster(c.text, c.at)
		if sort != c.sort || end != c.cluster {
			t.Errorf("Cluster(%q, %d) = %d, %d, want %d, %d", c.text, c.at, sort, end, c.sort, c.cluster)
		}
		sort, end = Run(c.text, c.at)
		if sort != c.sort || end != c.runsEnd {
			t.Errorf("Run(%q, %d) = %d, %d, want %d, %d", c.text, c.at, sort, end, c.sort, c.runsEnd)
		}
	}
}
