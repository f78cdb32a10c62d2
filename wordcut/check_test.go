package wordcut_test

import (
	"strings"
	"testing"

	"wordcut/api"
	"wordcut/wordcut"
)

func TestCheckAnswers(t *testing.T) {
	long := strings.Repeat("a=1,", 500)
	for _, c := range []struct {
		list string
		e    api.Errno
		at   int
	}{
		// The examples of the document.
		{"ab=20,abc=007,ab!", api.OK, 0},
		{"ab", api.ErrForm, 2},
		{"ab=,", api.ErrForm, 3},
		{"aB=1", api.ErrForm, 1},
		{"~a=1", api.ErrForm, 0},
		{"a=1,", api.ErrForm, 4},
		{"a=12345", api.ErrForm, 6},
		{"abcdefghijklm=1", api.ErrForm, 12},
		{"a=9999,b=1001", api.ErrCost, 2},

		// The bound of a list.
		{"", api.OK, 0},
		{long[:1996] + "ab!", api.OK, 0},
		{long[:1996] + "abc!", api.OK, 0},
		{long[:1996] + "abcd!", api.ErrLong, 0},
		{long[:1996] + "abcd", api.ErrForm, 2000},
		{long, api.ErrForm, 2000},
		{long + "a", api.ErrLong, 0},

		// The bound of a word: bytes count, letters or marks.
		{"abcdefghijkl=1", api.OK, 0},
		{"ABCDEFGHIJKL!", api.OK, 0},
		{"ABCDEFGHIJKLM!", api.ErrForm, 12},
		{"a~~~~~~~~~~~!", api.OK, 0},
		{"a~~~~~~~~~~~~!", api.ErrForm, 12},
		{"abcdefghijkl", api.ErrForm, 12},
		{"x!,abcdefghijklm=1", api.ErrForm, 15},

		// The ends of the alphabets, and what lies beside them.
		{"az=09,AZ=90", api.OK, 0},
		{"`=1", api.ErrForm, 0},
		{"{=1", api.ErrForm, 0},
		{"@=1", api.ErrForm, 0},
		{"[=1", api.ErrForm, 0},
		{"a=/", api.ErrForm, 2},
		{"a=:", api.ErrForm, 2},
		{"a}=1", api.ErrForm, 1},

		// The bound of a cost, and of its digits.
		{"a=0", api.OK, 0},
		{"a=0000", api.OK, 0},
		{"a=00000", api.ErrForm, 6},
		{"a=1000", api.OK, 0},
		{"a=1001", api.ErrCost, 2},
		{"a=9999", api.ErrCost, 2},
		{"a=1000,bc=1001", api.ErrCost, 10},

		// Lists that end too early.
		{"a", api.ErrForm, 1},
		{"a~", api.ErrForm, 2},
		{"a=", api.ErrForm, 2},
		{"a!,", api.ErrForm, 3},
		{"a!,b", api.ErrForm, 4},

		// Several errors at once: the one named first.
		{strings.Repeat("?", 2001), api.ErrLong, 0},
		{strings.Repeat("a=9999,", 286), api.ErrLong, 0},
		{"a=9999,?", api.ErrForm, 7},
		{"a=9999,b", api.ErrForm, 8},
		{"?,a=9999", api.ErrForm, 0},
		{"a=9999,a!,a=1", api.ErrCost, 2},
		{"?a?", api.ErrForm, 0},
	} {
		if e, at := wordcut.Check(c.list); e != c.e || at != c.at {
			t.Errorf("P3: Check(%.40q, of %d bytes) = %d, %d, want %d, %d", c.list, len(c.list), e, at, c.e, c.at)
		}
		if e, at := wantCheck(c.list); e != c.e || at != c.at {
			t.Errorf("the tests' own check of %.40q = %d, %d, want %d, %d", c.list, e, at, c.e, c.at)
		}
	}
}

func holdCheck(t *testing.T, list string) {
	t.Helper()
	e, at := wordcut.Check(list)
	wantE, wantAt := wantCheck(list)
	if e != wantE || at != wantAt {
		t.Fatalf("P3: Check(%q) = %d, %d, want %d, %d", list, e, at, wantE, wantAt)
	}
}

func TestCheckAllShortTexts(t *testing.T) {
	const alphabet = "aA~=!,1 "
	texts := []string{""}
	for range 5 {
		var longer []string
		for _, text := range texts {
			for i := range len(alphabet) {
				longer = append(longer, text+alphabet[i:i+1])
			}
		}
		for _, text := range longer {
			holdCheck(t, text)
		}
		texts = longer
	}
}

// Every byte in every place of a list, in place of the one there, ahead of
// it, and behind the list's beginning up to there.
func TestCheckAllBytes(t *testing.T) {
	const list = "ab~=20,ABCDEFGHIJKL!,c=9999,d~~~~~~~~~~~=0001,E!"
	for i := range len(list) + 1 {
		holdCheck(t, list[:i])
		holdCheck(t, list[i:])
		for b := range 256 {
			one := string([]byte{byte(b)})
			holdCheck(t, list[:i]+one)
			holdCheck(t, list[:i]+one+list[i:])
			if i < len(list) {
				holdCheck(t, list[:i]+one+list[i+1:])
			}
		}
	}
}

func TestCheckThrownTexts(t *testing.T) {
	d := dice(1)
	for range 20000 {
		holdCheck(t, d.text("abAB~~==!!,,0199\x00\xff", 0, 30))
		list := d.list()
		holdCheck(t, list)
		holdCheck(t, list[:d.throw(len(list)+1)])
	}
}
