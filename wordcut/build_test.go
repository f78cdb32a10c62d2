package wordcut_test

import (
	"fmt"
	"strings"
	"testing"

	"wordcut/api"
	"wordcut/wordcut"
)

// numbered: the words of these numbers, of two small letters each, put in.
func numbered(from, to int) string {
	var list []string
	for i := from; i < to; i++ {
		list = append(list, fmt.Sprintf("%c%c=%d", 'a'+i%26, 'a'+i/26, i))
	}
	return strings.Join(list, ",")
}

func TestBuildErrors(t *testing.T) {
	tooLong := strings.Repeat("a=1,", 500) + "a"
	for _, c := range []struct {
		why   string
		lists []string
		e     api.Errno
		size  int
	}{
		{"no lists", nil, api.OK, 0},
		{"no lists, not nil", []string{}, api.OK, 0},
		{"lists of no entries", []string{"", ""}, api.OK, 0},
		{"8 lists", []string{"a=1", "b=1", "c=1", "d=1", "e=1", "f=1", "g=1", "h=1"}, api.OK, 8},
		{"9 lists", []string{"a=1", "b=1", "c=1", "d=1", "e=1", "f=1", "g=1", "h=1", "i=1"}, api.ErrMany, 0},
		{"9 empty lists", make([]string, 9), api.ErrMany, 0},
		{"a million lists", make([]string, 1000000), api.ErrMany, 0},

		{"a list too long", []string{tooLong}, api.ErrLong, 0},
		{"a list of the greatest length", []string{strings.Repeat("a=1,", 499) + "bcd!"}, api.OK, 1},
		{"no list", []string{"a=1", "a"}, api.ErrForm, 0},
		{"a cost too high", []string{"a=1", "", "a=1001"}, api.ErrCost, 0},
		{"the highest cost", []string{"a=1000"}, api.OK, 1},
		{"a cost too high of a word put out later", []string{"a=1001,a!", "a!"}, api.ErrCost, 0},
		{"a word of 12 bytes", []string{"abcdefghijkl=1"}, api.OK, 1},
		{"a word of 13 bytes", []string{"abcdefghijklm=1"}, api.ErrForm, 0},
		{"an error in the 8th list", []string{"", "", "", "", "", "", "", ","}, api.ErrForm, 0},

		{"150 words", []string{numbered(0, 150)}, api.OK, 150},
		{"151 words", []string{numbered(0, 151)}, api.ErrMany, 0},
		{"150 words in two lists", []string{numbered(0, 100), numbered(100, 150)}, api.OK, 150},
		{"151 words in two lists", []string{numbered(0, 100), numbered(100, 151)}, api.ErrMany, 0},
		{"150 words put in again and again", []string{numbered(0, 150), numbered(0, 150), numbered(0, 150)}, api.OK, 150},
		{"151 words, one put out in its list", []string{numbered(0, 151) + ",ba!"}, api.OK, 150},
		{"151 words, one put out in a later list", []string{numbered(0, 151), "ba!"}, api.OK, 150},
		{"151 words, one put out too early", []string{"aa!", numbered(0, 151)}, api.ErrMany, 0},
		{"151 words, one put out and in again", []string{numbered(0, 151), "aa!", "aa=1"}, api.ErrMany, 0},
		{"151 words, one that is not there put out", []string{numbered(0, 151), "zz!"}, api.ErrMany, 0},
		{"150 words and a capital one", []string{numbered(0, 150), "AA=1"}, api.ErrMany, 0},

		{"9 lists, the first one wrong", []string{"a", "", "", "", "", "", "", "", ""}, api.ErrMany, 0},
		{"9 lists, one too long", []string{tooLong, "", "", "", "", "", "", "", ""}, api.ErrMany, 0},
		{"no list, then a cost too high", []string{"a", "a=9999"}, api.ErrForm, 0},
		{"a cost too high, then no list", []string{"a=9999", "a"}, api.ErrCost, 0},
		{"a cost too high, then a list too long", []string{"a=9999", tooLong}, api.ErrCost, 0},
		{"a list too long, then no list", []string{tooLong, "a"}, api.ErrLong, 0},
		{"no list and a cost too high in one", []string{"a=9999,a"}, api.ErrForm, 0},
		{"151 words, then no list", []string{numbered(0, 151), "a"}, api.ErrForm, 0},
		{"151 words, then a cost too high", []string{numbered(0, 151), "a=1001"}, api.ErrCost, 0},
	} {
		d, e := wordcut.Build(c.lists)
		if e != c.e {
			t.Errorf("P4: Build of %s: error %d, want %d", c.why, e, c.e)
			continue
		}
		if (d == nil) != (e != api.OK) {
			t.Errorf("P1: Build of %s: error %d, the dictionary is nil: %v", c.why, e, d == nil)
			continue
		}
		if d != nil && d.Size() != c.size {
			t.Errorf("P5: Build of %s: Size %d, want %d", c.why, d.Size(), c.size)
		}
	}
}

func mustBuild(t *testing.T, lists ...string) *wordcut.Dict {
	t.Helper()
	d, e := wordcut.Build(lists)
	if e != api.OK || d == nil {
		t.Fatalf("P4: Build(%.200q) = %v, %d", lists, d, e)
	}
	return d
}

func exampleDict(t *testing.T) *wordcut.Dict {
	t.Helper()
	return mustBuild(t,
		"ab=20,abc=30,c=10,cd=40,de=10,d=500",
		"NOW=1,HERE=1,NO=1,WHERE=1,NOWHERE!,IS=1,AB=0,ABC=9,CD=9")
}

// cost: the cost of a word, or -1 if it is not in.
func cost(d *wordcut.Dict, word string) int {
	for _, hit := range d.Prefixes(word) {
		if hit.Length == len(word) {
			return hit.Cost
		}
	}
	return -1
}

func TestBuildLastEntryCounts(t *testing.T) {
	for _, c := range []struct {
		lists []string
		word  string
		cost  int
		size  int
	}{
		{[]string{"ab=20,abc=007", "ab!,b=1,b=2"}, "abc", 7, 2},
		{[]string{"ab=20,abc=007", "ab!,b=1,b=2"}, "b", 2, 2},
		{[]string{"ab=20,abc=007", "ab!,b=1,b=2"}, "ab", -1, 2},
		{[]string{"a=1,a=2,a=3"}, "a", 3, 1},
		{[]string{"a=1,a!"}, "a", -1, 0},
		{[]string{"a!,a=1"}, "a", 1, 1},
		{[]string{"a=1,a!,a=0"}, "a", 0, 1},
		{[]string{"a=1", "a=2", "", "b=3"}, "a", 2, 2},
		{[]string{"a=1", "a!", "a=5", "b!"}, "a", 5, 1},
		{[]string{"a=1", "a=2,a!"}, "a", -1, 0},
		{[]string{"a=1", "A!", "a~!", "aa!"}, "a", 1, 1},
		{[]string{"a=1", "A=2", "a~=3"}, "A", 2, 3},
		{[]string{"a=0001"}, "a", 1, 1},
		{[]string{"a=1000"}, "a", 1000, 1},
		{[]string{"a=0987"}, "a", 987, 1},
		{[]string{"a=60"}, "a", 60, 1},
	} {
		d := mustBuild(t, c.lists...)
		if got := cost(d, c.word); got != c.cost {
			t.Errorf("P4: in Build(%q) %s has the cost %d, want %d", c.lists, c.word, got, c.cost)
		}
		if d.Size() != c.size {
			t.Errorf("P5: Size of Build(%q) = %d, want %d", c.lists, d.Size(), c.size)
		}
	}
}

func TestBuildThrownLists(t *testing.T) {
	d := dice(2)
	for range 3000 {
		lists := d.lists(9)
		if d.throw(10) == 0 && len(lists) > 0 {
			i := d.throw(len(lists))
			lists[i] += d.text("a=!,9", 1, 6)
		}
		got, e := wordcut.Build(lists)
		want, wantE := wantBuild(lists)
		if e != wantE || (got == nil) != (e != api.OK) {
			t.Fatalf("P4: Build(%q) = %v, %d, want %d", lists, got, e, wantE)
		}
		if got == nil {
			continue
		}
		if got.Size() != len(want) {
			t.Fatalf("P5: Size of Build(%q) = %d, want %d", lists, got.Size(), len(want))
		}
		for word, wantCost := range want {
			if c := cost(got, word); c != wantCost {
				t.Fatalf("P4: in Build(%q) %s has the cost %d, want %d", lists, word, c, wantCost)
			}
		}
	}
}
