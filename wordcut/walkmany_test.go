package wordcut_test

import (
	"fmt"
	"math"
	"slices"
	"strings"
	"testing"

	"wordcut/api"
	"wordcut/wordcut"
)

// followed: a walk, and the course that it must take.
type followed struct {
	walk   *wordcut.Walk
	course course
}

func (d told) follow(t *testing.T, text string) *followed {
	t.Helper()
	places := wantCut(d.words, text)
	return &followed{mustBegin(t, d.Dict, text), course{d.words, text, places, 0}}
}

// hold tells what is wrong of the walk after a turn; "" if nothing is.
func (f *followed) hold(call string, k int) string {
	got := turn(f.walk, call, k)
	want := f.course.turn(call, k)
	if got != want || f.walk.Place() != f.course.place || f.walk.Kind() != f.course.kind() {
		return fmt.Sprintf("by %v over %q %s(%d) = %d, at %d of kind %d, want %d, at %d of kind %d", f.course.dict, f.course.text, call, k,
			got, f.walk.Place(), f.walk.Kind(), want, f.course.place, f.course.kind())
	}
	return ""
}

var plainCalls = []string{"First", "Last", "Next", "Previous"}
var callsWithPlace = []string{"Following", "Preceding", "Is"}

// holdEveryTurn makes every turn from every boundary of a text.
func (d told) holdEveryTurn(t *testing.T, text string) {
	t.Helper()
	f := d.follow(t, text)
	for _, from := range f.course.places {
		ks := []int{math.MinInt, -501, math.MaxInt}
		for k := -2; k <= len(text)+2; k++ {
			ks = append(ks, k)
		}
		for _, k := range ks {
			for _, call := range slices.Concat(plainCalls, callsWithPlace) {
				for _, fault := range []string{f.hold("Is", from), f.hold(call, k)} {
					if fault != "" {
						t.Fatalf("P12 to P14: %s", fault)
					}
				}
			}
		}
	}
}

func TestEveryTurnOfShortTexts(t *testing.T) {
	d := mustTell(t, "a=1,ab=1,ab~=3,b=900,A=1,AB=1,A~A=1")
	everyRow("abA~ 1.", 3, func(text string) { d.holdEveryTurn(t, text) })
	for _, text := range []string{"ab12  ,,AB", "~~a~~1 ~1", "aBAbAB~", "AAAAAAAA", "........", "12345678", "ab\x00\xffab"} {
		d.holdEveryTurn(t, text)
	}
}

// thrownTurn: a call, often one with a place near the text.
func (d *dice) thrownTurn(length int) (string, int) {
	calls := slices.Concat(plainCalls, callsWithPlace, callsWithPlace)
	ends := []int{math.MinInt, math.MinInt + 1, -1, 0, 1, length - 1, length, length + 1, math.MaxInt - 1, math.MaxInt}
	if d.throw(4) == 0 {
		return calls[d.throw(len(calls))], ends[d.throw(len(ends))]
	}
	return calls[d.throw(len(calls))], d.throw(length+5) - 2
}

// holdThrown makes so many turns.
func (d *dice) holdThrown(t *testing.T, f *followed, turns int) {
	t.Helper()
	for range turns {
		call, k := d.thrownTurn(len(f.course.text))
		if fault := f.hold(call, k); fault != "" {
			t.Fatalf("P12 to P14: %s", fault)
		}
	}
}

func TestThrownWalks(t *testing.T) {
	d := dice(10)
	for range 400 {
		dict := mustTell(t, d.bothList(20))
		d.holdThrown(t, dict.follow(t, d.text("aaabbbAAABBB~. 1", 0, 40)), 100)
	}
}

func TestThrownLongWalks(t *testing.T) {
	d := dice(11)
	for range 20 {
		dict := mustTell(t, d.bothList(40))
		f := dict.follow(t, d.text("aaabbbAAABBB~. 1", 490, 500))
		for range f.course.places {
			if fault := f.hold("Next", 0); fault != "" {
				t.Fatalf("P13: %s", fault)
			}
		}
		d.holdThrown(t, f, 200)
	}
}

// Several walks of one dictionary, and of others, over one text and over
// others, go on in turns.
func TestWalksDoNotTouchOneAnother(t *testing.T) {
	d := dice(12)
	for range 60 {
		first := mustTell(t, d.bothList(20))
		second := mustTell(t, d.bothList(20))
		text := d.text("aaabbbAAABBB~. 1", 0, 30)
		other := d.text("aaabbbAAABBB~. 1", 0, 30)
		all := []*followed{first.follow(t, text), first.follow(t, text), first.follow(t, other), second.follow(t, text), second.follow(t, other)}
		for range 200 {
			call, k := d.thrownTurn(len(text))
			if fault := all[d.throw(len(all))].hold(call, k); fault != "" {
				t.Fatalf("P2: of several walks one goes wrong: %s", fault)
			}
			if d.throw(20) == 0 {
				all[d.throw(len(all))] = first.follow(t, other)
			}
		}
	}
}

func TestWalkStandsByItself(t *testing.T) {
	d := exampleDict(t)
	image := d.Image()
	text := "abcde.12 NOWHERE"
	places, _ := d.Cut(text)
	w := mustBegin(t, d, text)
	later, _ := d.Cut(text)
	for _, list := range [][]int{places, later} {
		room := list[:cap(list)]
		for i := range room {
			room[i] = -7
		}
	}
	w.Next()
	d.Begin("xyz")
	d.Begin(strings.Repeat("a", 501))
	d.Cut("xyzxyzxyz")
	seen := boundariesOf(w)
	if want := []int{2, 3, 5, 6, 8, 9, 12, 16}; !slices.Equal(seen, want) {
		t.Errorf("P2: what was called beside a walk changed it: %v, want %v", seen, want)
	}
	if d.Image() != image || d.Size() != 14 {
		t.Errorf("P2: walking changed the dictionary")
	}
	if again, e := d.Cut(text); e != api.OK || !slices.Equal(again, []int{0, 2, 3, 5, 6, 8, 9, 12, 16}) {
		t.Errorf("P2: walking changed a cut: %v, %d", again, e)
	}
}

func TestWalkByLoadedDictionary(t *testing.T) {
	d := dice(13)
	for range 100 {
		dict := mustTell(t, d.bothList(20))
		dict.reload(t)
		dict.holdEveryTurn(t, d.text("aabbAABB~. 1", 0, 14))
	}
}
