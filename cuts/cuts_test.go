package cuts

import (
	"slices"
	"testing"

	"wordcut/api"
	"wordcut/words"
)

func setOf(costs int, list ...string) *words.Set {
	var set words.Set
	for _, word := range list {
		set.Put(word, costs)
	}
	return &set
}

func TestStanding(t *testing.T) {
	set := setOf(7, "a", "a~", "ab", "aba", "b~", "b")
	got := standing("aba~b", set)
	want := [][]api.Hit{
		{{Length: 1, Cost: 7}, {Length: 2, Cost: 7}},
		{{Length: 1, Cost: 7}},
		{{Length: 2, Cost: 7}},
		nil,
		{{Length: 1, Cost: 7}},
	}
	if !slices.EqualFunc(got, want, slices.Equal) {
		t.Errorf("standing = %v, want %v", got, want)
	}
}

func TestLookAhead(t *testing.T) {
	set := setOf(1, "A", "BC", "CD", "D")
	got := lookAhead(standing("ABCDE", set))
	if want := []int{3, 4, 4, 4, 4, 5}; !slices.Equal(got, want) {
		t.Errorf("lookAhead = %v, want %v", got, want)
	}
}

func TestBoundaries(t *testing.T) {
	set := setOf(400, "ab", "abc", "AB", "BC", "C")
	for _, c := range []struct {
		text string
		want []int
	}{
		{"", []int{0}},
		{"abcab", []int{0, 3, 5}},
		{"ABCXAB", []int{0, 2, 3, 4, 6}},
		{"12ab  ABC.~~", []int{0, 2, 4, 6, 8, 9, 12}},
	} {
		if got := Boundaries(c.text, set); !slices.Equal(got, c.want) {
			t.Errorf("Boundaries(%q) = %v, want %v", c.text, got, c.want)
		}
	}
}
