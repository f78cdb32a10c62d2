// Package words: what a word is, and sets of words with their costs.
package words

import "wordcut/api"

type costed struct {
	word string
	cost int
}

// Set is a set of words with their costs. The zero Set has none.
type Set struct {
	list []costed // in order, each word once
}

// Size tells how many words there are.
func (s *Set) Size() int { return len(s.list) }

// At answers the word that has i others ahead of it, and its cost; "" and 0,
// if there is none.
func (s *Set) At(i int) (string, int) {
	if i < 0 || i >= len(s.list) {
		return "", 0
	}
	return s.list[i].word, s.list[i].cost
}

// Has tells whether a text is a word of the set.
func (s *Set) Has(text string) bool {
	_, found := s.find(text)
	return found
}

// Put puts a word in, or gives it another cost if it is in.
func (s *Set) Put(word string, cost int) {
	at, found := s.find(word)
	if found {
		s.list[at].cost = cost
		return
	}
	s.list = append(s.list, costed{})
	for i := len(s.list) - 1; i > at; i-- {
		s.list[i] = s.list[i-1]
	}
	// A copy: the word handed in may be a part of a much longer text, which
	// would be kept with it.
	s.list[at] = costed{word: string([]byte(word)), cost: cost}
}

// Drop takes a word out, if it is in.
func (s *Set) Drop(word string) {
	at, found := s.find(word)
	if !found {
		return
	}
	last := len(s.list) - 1
	for i := at; i < last; i++ {
		s.list[i] = s.list[i+1]
	}
	s.list[last] = costed{}
	s.list = s.list[:last]
}

// Prefixes tells the words with which a text begins, the shortest first.
func (s *Set) Prefixes(text string) []api.Hit {
	var hits []api.Hit
	for length := 1; length <= api.MaxWord && length <= len(text); length++ {
		at, found := s.find(text[:length])
		if found {
			hits = append(hits, api.Hit{Length: length, Cost: s.list[at].cost})
		}
	}
	return hits
}

// find answers where a word is, and true; or where it would have to be put,
// and false.
func (s *Set) find(word string) (int, bool) {
	low := 0
	high := len(s.list)
	for low < high {
		middle := (low + high) / 2
		if s.list[middle].word < word {
			low = middle + 1
		} else {
			high = middle
		}
	}
	found := low < len(s.list) && s.list[low].word == word
	return low, found
}
