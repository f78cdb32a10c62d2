package wordcut_test

import (
	"math"
	"slices"
	"strings"
	"testing"

	"wordcut/api"
	"wordcut/wordcut"
)

// The answers of Is as numbers, so that all calls of a walk answer alike.
const (
	no  = 0
	yes = 1
)

func mustBegin(t *testing.T, d *wordcut.Dict, text string) *wordcut.Walk {
	t.Helper()
	w, e := d.Begin(text)
	if e != api.OK || w == nil {
		t.Fatalf("P12: Begin(%.40q): error %d, the walk is nil: %v", text, e, w == nil)
	}
	return w
}

// turn: calls a walk by the name of the call; k is for those that take one.
func turn(w *wordcut.Walk, call string, k int) int {
	switch call {
	case "First":
		return w.First()
	case "Last":
		return w.Last()
	case "Next":
		return w.Next()
	case "Previous":
		return w.Previous()
	case "Following":
		return w.Following(k)
	case "Preceding":
		return w.Preceding(k)
	case "Is":
		if w.Is(k) {
			return yes
		}
		return no
	}
	return -99
}

// turned: a call of a walk, its answer, and where the walk is then.
type turned struct {
	call           string
	k, want, place int
}

func holdTurns(t *testing.T, w *wordcut.Walk, turns []turned) {
	t.Helper()
	for i, c := range turns {
		if got := turn(w, c.call, c.k); got != c.want || w.Place() != c.place {
			t.Fatalf("P13, P14: turn %d: %s(%d) = %d, at %d, want %d, at %d", i, c.call, c.k, got, w.Place(), c.want, c.place)
		}
	}
}

// boundariesOf: all boundaries, from where a walk is on; of a walk that goes in
// a circle, more than a text can have.
func boundariesOf(w *wordcut.Walk) []int {
	places := []int{w.Place()}
	for place := w.Next(); place != api.Done && len(places) < 600; place = w.Next() {
		places = append(places, place)
	}
	return places
}

// kindsOf: the kinds at all boundaries, from where a walk is on.
func kindsOf(w *wordcut.Walk) []int {
	kinds := []int{w.Kind()}
	for len(kinds) < 600 && w.Next() != api.Done {
		kinds = append(kinds, w.Kind())
	}
	return kinds
}

func TestWalkExample(t *testing.T) {
	w := mustBegin(t, exampleDict(t), "ab 12")
	var seen []int
	look := func(answer int) { seen = append(seen, answer, w.Place(), w.Kind()) }
	look(0)
	for range 4 {
		look(w.Next())
	}
	look(w.Previous())
	look(w.Following(-7))
	look(w.Following(5))
	look(w.Preceding(3))
	if w.Is(4) {
		t.Errorf("P14: Is(4) is true")
	}
	look(5)
	want := []int{
		0, 0, api.None, 2, 2, api.Word, 3, 3, api.Blank, 5, 5, api.Number, api.Done, 5, api.Number,
		3, 3, api.Blank, 0, 0, api.None, api.Done, 5, api.Number, 2, 2, api.Word, 5, 5, api.Number,
	}
	if !slices.Equal(seen, want) {
		t.Errorf("P12 to P14: answers, places and kinds are %v, want %v", seen, want)
	}
}

func TestKinds(t *testing.T) {
	for _, c := range []struct {
		list, text string
		want       []int
	}{
		{"ab=1", "", []int{api.None}},
		{"", "12", []int{api.None, api.Number}},
		{"", "1~2~", []int{api.None, api.Number}},
		{"", "   ", []int{api.None, api.Blank}},
		{"", " ~", []int{api.None, api.Blank}},
		{"", ".,", []int{api.None, api.None, api.None}},
		{"", "~", []int{api.None, api.None}},
		{"a=1", "~~a", []int{api.None, api.None, api.Word}},
		{"", "\x00\xff\t~", []int{api.None, api.None, api.None, api.None}},
		{"", "ab", []int{api.None, api.Strange, api.Strange}},
		{"", "AB", []int{api.None, api.Strange}},
		{"ab=1", "abx", []int{api.None, api.Word, api.Strange}},

		// A word is a word, whatever it costs.
		{"a=0", "a", []int{api.None, api.Word}},
		{"a=500", "a", []int{api.None, api.Word}},
		{"a=501", "a", []int{api.None, api.Word}},
		{"a=1000,b~=1000", "ab~b", []int{api.None, api.Word, api.Word, api.Strange}},

		// Byte by byte: neither other letters nor other marks are the same.
		{"ab=1,A=1", "AB", []int{api.None, api.Word, api.Strange}},
		{"AB=1", "ab", []int{api.None, api.Strange, api.Strange}},
		{"a=1", "a~", []int{api.None, api.Strange}},
		{"a~=1", "aa~a~~", []int{api.None, api.Strange, api.Word, api.Strange}},
		{"A=1", "A~A", []int{api.None, api.Strange, api.Word}},
		{"A~B=1", "A~BA~B~", []int{api.None, api.Word, api.Strange}},
		{"AB=1", "XYABZ~", []int{api.None, api.Strange, api.Word, api.Strange}},
		{"a!", "a", []int{api.None, api.Strange}},
		{"abcdefghijkl=1", "abcdefghijklm", []int{api.None, api.Word, api.Strange}},
		{"ABCDEFGHIJKL=1,A!", "ABCDEFGHIJKLM", []int{api.None, api.Word, api.Strange}},

		// The beginning of a word, and more than one, are no words.
		{"AB=1", "A", []int{api.None, api.Strange}},
		{"AB=1", "AXB", []int{api.None, api.Strange}},
		{"ab=1", "a", []int{api.None, api.Strange}},

		{"ab=1,AB=2", "ab12 .ABAab", []int{api.None, api.Word, api.Number, api.Blank, api.None, api.Word, api.Strange, api.Word}},
	} {
		if got := kindsOf(mustBegin(t, mustBuild(t, c.list), c.text)); !slices.Equal(got, c.want) {
			t.Errorf("P12: by %q over %q the kinds are %v, want %v", c.list, c.text, got, c.want)
		}
	}
}

func TestBeginBound(t *testing.T) {
	d := mustBuild(t, "a=1,AA=2")
	for _, one := range []string{"a", "b", "A", "B", "1", " ", ".", "~", "\x00", "\xff"} {
		w := mustBegin(t, d, strings.Repeat(one, 500))
		if w.Place() != 0 || w.Kind() != api.None || w.Last() != 500 {
			t.Errorf("P12: a walk over 500 times %q is wrong", one)
		}
		for _, length := range []int{501, 502, 1000, 65536, 65536 + 500, 9000000} {
			if w, e := d.Begin(strings.Repeat(one, length)); w != nil || e != api.ErrLong {
				t.Errorf("P12: Begin of %d times %q: error %d, the walk is nil: %v, want nil, %d", length, one, e, w == nil, api.ErrLong)
			}
		}
	}
}

func TestNextAndPrevious(t *testing.T) {
	w := mustBegin(t, mustBuild(t, "ab=1"), "ab.12")
	holdTurns(t, w, []turned{
		{"Previous", 0, api.Done, 0}, {"Previous", 0, api.Done, 0},
		{"Next", 0, 2, 2}, {"Previous", 0, 0, 0}, {"Next", 0, 2, 2}, {"Next", 0, 3, 3}, {"Next", 0, 5, 5},
		{"Next", 0, api.Done, 5}, {"Next", 0, api.Done, 5},
		{"Previous", 0, 3, 3}, {"Previous", 0, 2, 2}, {"Previous", 0, 0, 0}, {"Previous", 0, api.Done, 0}, {"Next", 0, 2, 2},
		{"Last", 0, 5, 5}, {"Last", 0, 5, 5}, {"Next", 0, api.Done, 5}, {"Previous", 0, 3, 3},
		{"First", 0, 0, 0}, {"First", 0, 0, 0}, {"Previous", 0, api.Done, 0}, {"Next", 0, 2, 2},
	})
}

func TestFollowing(t *testing.T) {
	w := mustBegin(t, mustBuild(t, "ab=1"), "ab.12")
	holdTurns(t, w, []turned{
		{"Following", 0, 2, 2}, {"Following", 1, 2, 2}, {"Following", 2, 3, 3}, {"Following", 3, 5, 5}, {"Following", 4, 5, 5},
		{"Following", 5, api.Done, 5}, {"Following", -1, 0, 0}, {"Following", 6, api.Done, 5},
		{"Following", math.MinInt, 0, 0}, {"Following", math.MaxInt, api.Done, 5}, {"Previous", 0, 3, 3},
		{"Following", math.MinInt + 1, 0, 0}, {"Following", math.MaxInt - 1, api.Done, 5},
		{"Following", 1 << 32, api.Done, 5}, {"Following", -1 << 32, 0, 0},
	})
}

func TestPreceding(t *testing.T) {
	w := mustBegin(t, mustBuild(t, "ab=1"), "ab.12")
	holdTurns(t, w, []turned{
		{"Preceding", 6, 5, 5}, {"Preceding", 5, 3, 3}, {"Preceding", 4, 3, 3}, {"Preceding", 3, 2, 2}, {"Preceding", 2, 0, 0}, {"Preceding", 1, 0, 0},
		{"Last", 0, 5, 5}, {"Preceding", 0, api.Done, 0}, {"Preceding", 7, 5, 5}, {"Preceding", -1, api.Done, 0},
		{"Preceding", math.MaxInt, 5, 5}, {"Preceding", math.MinInt, api.Done, 0}, {"Next", 0, 2, 2},
		{"Preceding", math.MaxInt - 1, 5, 5}, {"Preceding", math.MinInt + 1, api.Done, 0},
		{"Preceding", 1 << 32, 5, 5}, {"Preceding", -1 << 32, api.Done, 0},
	})
}

func TestIs(t *testing.T) {
	w := mustBegin(t, mustBuild(t, "ab=1"), "ab.12")
	holdTurns(t, w, []turned{
		{"Is", 0, yes, 0}, {"Is", 1, no, 2}, {"Is", 5, yes, 5}, {"Is", 2, yes, 2}, {"Is", 3, yes, 3}, {"Is", 4, no, 5}, {"Is", 5, yes, 5},
		{"Is", -1, no, 0}, {"Is", 6, no, 5}, {"Is", -2, no, 0}, {"Next", 0, 2, 2}, {"Is", 7, no, 5}, {"Previous", 0, 3, 3},
		{"Is", math.MaxInt, no, 5}, {"Is", math.MinInt, no, 0}, {"Is", math.MaxInt - 1, no, 5}, {"Is", math.MinInt + 1, no, 0},
		{"Is", 1<<32 + 2, no, 5}, {"Is", -1<<32 + 2, no, 0},
	})
}

func TestWalkOverNothing(t *testing.T) {
	w := mustBegin(t, mustBuild(t, "ab=1"), "")
	if w.Place() != 0 || w.Kind() != api.None {
		t.Errorf("P12: a walk over nothing is at %d, of kind %d", w.Place(), w.Kind())
	}
	holdTurns(t, w, []turned{
		{"First", 0, 0, 0}, {"Last", 0, 0, 0}, {"Next", 0, api.Done, 0}, {"Previous", 0, api.Done, 0},
		{"Following", -1, 0, 0}, {"Following", 0, api.Done, 0}, {"Following", 1, api.Done, 0},
		{"Preceding", -1, api.Done, 0}, {"Preceding", 0, api.Done, 0}, {"Preceding", 1, 0, 0},
		{"Is", -1, no, 0}, {"Is", 0, yes, 0}, {"Is", 1, no, 0},
		{"Following", math.MinInt, 0, 0}, {"Following", math.MaxInt, api.Done, 0},
		{"Preceding", math.MinInt, api.Done, 0}, {"Preceding", math.MaxInt, 0, 0},
		{"Is", math.MinInt, no, 0}, {"Is", math.MaxInt, no, 0},
	})
	if w.Kind() != api.None {
		t.Errorf("P12: after all turns over nothing the kind is %d", w.Kind())
	}
}

// Place and Kind look, they do not go.
func TestPlaceAndKindStay(t *testing.T) {
	w := mustBegin(t, mustBuild(t, "ab=1"), "ab.12")
	w.Following(2)
	for range 3 {
		if w.Place() != 3 || w.Kind() != api.None {
			t.Errorf("P12: the walk is at %d, of kind %d", w.Place(), w.Kind())
		}
	}
	if got := w.Next(); got != 5 {
		t.Errorf("P13: Next is %d, want 5", got)
	}
}
