package wordcut_test

import (
	"regexp"
	"slices"
	"strings"
)

// What the document says of cutting, written a second time by other means.

var (
	clusterForm = regexp.MustCompile(`\Am+|[^m]m*`)
	runForm     = regexp.MustCompile(`\Am+|(?:sm*)+|(?:cm*)+|(?:dm*)+|(?:bm*)+|om*`)
)

// sortRow: the text, with a letter for the sort of each byte in its place.
func sortRow(text string) string {
	row := []byte(strings.Repeat("o", len(text)))
	for i := range row {
		one := text[i : i+1]
		switch {
		case strings.Contains("abcdefghijklmnopqrstuvwxyz", one):
			row[i] = 's'
		case strings.Contains("ABCDEFGHIJKLMNOPQRSTUVWXYZ", one):
			row[i] = 'c'
		case strings.Contains("0123456789", one):
			row[i] = 'd'
		case one == " ":
			row[i] = 'b'
		case one == "~":
			row[i] = 'm'
		}
	}
	return string(row)
}

// ground: a text with its clusters and the dictionary that cuts it.
type ground struct {
	dict    map[string]int
	text    string
	cluster map[int]int // from where a cluster begins to where it ends
}

// way: the boundaries of some steps, and what they cost.
type way struct {
	cost   int
	places []int
}

func (w way) better(other way) bool {
	if w.cost != other.cost {
		return w.cost < other.cost
	}
	return slices.Compare(w.places, other.places) < 0
}

// words: those that stand at a place, with their costs.
func (g ground) words(at int) map[string]int {
	found := map[string]int{}
	if _, begins := g.cluster[at]; !begins {
		return found
	}
	for word, cost := range g.dict {
		end := at + len(word)
		if _, begins := g.cluster[end]; !begins && end != len(g.text) {
			continue
		}
		if strings.HasPrefix(g.text[at:], word) {
			found[word] = cost
		}
	}
	return found
}

// steps: every step from a place, by itself.
func (g ground) steps(at int) []way {
	all := []way{{500, []int{g.cluster[at]}}}
	for word, cost := range g.words(at) {
		all = append(all, way{cost, []int{at + len(word)}})
	}
	return all
}

// bestOfAll looks at every way there is from one place to another.
func (g ground) bestOfAll(so way, at, to int) way {
	if at == to {
		return so
	}
	best := way{cost: 1 << 40}
	for _, step := range g.steps(at) {
		next := way{so.cost + step.cost, slices.Concat(so.places, step.places)}
		if found := g.bestOfAll(next, step.places[0], to); found.better(best) {
			best = found
		}
	}
	return best
}

// bestOfMany: the same for runs with too many ways to look at each: the best
// way up to every place, from the run's beginning on.
func (g ground) bestOfMany(from, to int) way {
	best := map[int]way{from: {}}
	for at := from; at < to; at++ {
		so, reached := best[at]
		if !reached {
			continue
		}
		for _, step := range g.steps(at) {
			next := way{so.cost + step.cost, slices.Concat(so.places, step.places)}
			end := step.places[0]
			if old, has := best[end]; !has || next.better(old) {
				best[end] = next
			}
		}
	}
	return best[to]
}

func (g ground) small(from, to int) []int {
	if to-from <= 9 {
		return g.bestOfAll(way{}, from, to).places
	}
	return g.bestOfMany(from, to).places
}

// reaches: how far each row of at most so many words from a place reaches.
func (g ground) reaches(at, words, to int) []int {
	if at > to {
		return nil
	}
	all := []int{at}
	if words > 0 {
		for word := range g.words(at) {
			all = append(all, g.reaches(at+len(word), words-1, to)...)
		}
	}
	return all
}

func (g ground) capitals(from, to int) []int {
	var places []int
	for at := from; at < to; places = append(places, at) {
		standing := g.words(at)
		if len(standing) == 0 {
			for at++; at < to && len(g.words(at)) == 0; at++ {
			}
			continue
		}
		far := slices.Max(g.reaches(at, 3, to))
		longest := 0
		for word := range standing {
			if slices.Contains(g.reaches(at+len(word), 2, to), far) {
				longest = max(longest, len(word))
			}
		}
		at += longest
	}
	return places
}

func wantCut(dict map[string]int, text string) []int {
	g := ground{dict, text, map[int]int{}}
	row := sortRow(text)
	for _, place := range clusterForm.FindAllStringIndex(row, -1) {
		g.cluster[place[0]] = place[1]
	}
	places := []int{0}
	for _, run := range runForm.FindAllStringIndex(row, -1) {
		switch row[run[0]] {
		case 's':
			places = append(places, g.small(run[0], run[1])...)
		case 'c':
			places = append(places, g.capitals(run[0], run[1])...)
		default:
			places = append(places, run[1])
		}
	}
	return places
}
