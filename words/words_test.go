package words

import (
	"slices"
	"testing"
)

func inOrder(s *Set) []string {
	var texts []string
	for _, c := range s.list {
		texts = append(texts, c.word)
	}
	return texts
}

func TestPutAndDropKeepTheOrder(t *testing.T) {
	var s Set
	for _, word := range []string{"b", "ab", "a", "B", "a~", "abc", "b", "a", "AB"} {
		s.Put(word, len(word))
	}
	if got, want := inOrder(&s), []string{"AB", "B", "a", "ab", "abc", "a~", "b"}; !slices.Equal(got, want) {
		t.Errorf("the words are %q, want %q", got, want)
	}
	for _, word := range []string{"AB", "b", "abc", "c", "", "AB"} {
		s.Drop(word)
	}
	if got, want := inOrder(&s), []string{"B", "a", "ab", "a~"}; !slices.Equal(got, want) {
		t.Errorf("the words are %q, want %q", got, want)
	}
}

func TestPutAgainGivesAnotherCost(t *testing.T) {
	var s Set
	s.Put("a", 1)
	s.Put("a", 2)
	hits := s.Prefixes("a")
	if s.Size() != 1 || len(hits) != 1 || hits[0].Cost != 2 {
		t.Errorf("of size %d, Prefixes %v", s.Size(), hits)
	}
}

func TestAt(t *testing.T) {
	var s Set
	s.Put("b", 2)
	s.Put("a", 1)
	for _, c := range []struct {
		i    int
		word string
		cost int
	}{
		{-1, "", 0}, {0, "a", 1}, {1, "b", 2}, {2, "", 0},
	} {
		if word, cost := s.At(c.i); word != c.word || cost != c.cost {
			t.Errorf("At(%d) = %q, %d, want %q, %d", c.i, word, cost, c.word, c.cost)
		}
	}
}

func TestHas(t *testing.T) {
	var s Set
	if s.Has("") || s.Has("a") {
		t.Errorf("a set of no words has one")
	}
	for _, word := range []string{"b", "ab", "AB", "a~"} {
		s.Put(word, 0)
	}
	s.Drop("b")
	for text, want := range map[string]bool{
		"ab": true, "AB": true, "a~": true, "b": false, "": false, "a": false, "abc": false, "ab~": false, "Ab": false, "z": false,
	} {
		if got := s.Has(text); got != want {
			t.Errorf("Has(%q) = %v, want %v", text, got, want)
		}
	}
}
