package wordcut_test

import (
	"slices"
	"strings"
	"testing"

	"wordcut/api"
	"wordcut/wordcut"
)

// cutOf: the text, with a bar between each two pieces.
func cutOf(t *testing.T, d *wordcut.Dict, text string) string {
	t.Helper()
	places, e := d.Cut(text)
	if e != api.OK || len(places) == 0 || places[0] != 0 || places[len(places)-1] != len(text) {
		t.Errorf("P8: Cut(%.40q) = %v, %d", text, places, e)
		return "no cut"
	}
	var pieces []string
	for i, place := range places[1:] {
		if place <= places[i] {
			t.Errorf("P8: the boundaries of %.40q do not rise: %v", text, places)
			return "no cut"
		}
		pieces = append(pieces, text[places[i]:place])
	}
	return strings.Join(pieces, "|")
}

// told: a dictionary, and what the document says of its list.
type told struct {
	*wordcut.Dict
	list  string
	words map[string]int
}

func mustTell(t *testing.T, list string) told {
	t.Helper()
	words, _ := wantBuild([]string{list})
	return told{mustBuild(t, list), list, words}
}

// reload puts in the dictionary's place what Load makes of its image.
func (d *told) reload(t *testing.T) {
	t.Helper()
	loaded, e := wordcut.Load(d.Image())
	if e != api.OK || loaded == nil {
		t.Fatalf("P7: Load of an image: %d", e)
	}
	d.Dict = loaded
}

// holdCut holds a cut against the document's second telling.
func (d told) holdCut(t *testing.T, text string) {
	t.Helper()
	got, e := d.Cut(text)
	if want := wantCut(d.words, text); e != api.OK || !slices.Equal(got, want) {
		t.Fatalf("P8 to P10: by %q Cut(%q) = %v, %d, want %v", d.list, text, got, e, want)
	}
}

func TestCutExamples(t *testing.T) {
	d := exampleDict(t)
	for _, c := range []struct {
		text string
		want []int
	}{
		{"abcde", []int{0, 2, 3, 5}},
		{"abcd", []int{0, 2, 4}},
		{"xab", []int{0, 1, 3}},
		{"ab~", []int{0, 1, 3}},
		{"NOWHERE", []int{0, 3, 7}},
		{"ABCD", []int{0, 2, 4}},
		{"XYNOIS", []int{0, 2, 4, 6}},
		{"ab12  ,,NO", []int{0, 2, 4, 6, 7, 8, 10}},
		{"", []int{0}},
	} {
		if got, e := d.Cut(c.text); e != api.OK || !slices.Equal(got, c.want) {
			t.Errorf("P8 to P10: Cut(%q) = %v, %d, want %v", c.text, got, e, c.want)
		}
	}
}

func TestCutRuns(t *testing.T) {
	d := mustBuild(t, "ab=1,AB=1,ab~=1,a=1000,A=1000")
	for _, want := range []string{
		"0123456789", "1~2~~3", "1~", " ", "     ", " ~~ ~ ", " ~",
		".", ".|.|.", ".~~|.~|.", "~", "~~~", "~|a", "~~|A", "~|1~", "~~| ~", "~|.~|.",
		"ab|AB|ab", "ab|12|ab", "AB|12|AB", "12| |12", "ab| |ab", "ab| ~|ab", "ab|.|ab", "AB|.~|AB", "ab~|.~|ab~",
		"12| |.|ab|AB|ab|.| |12", "12~| ~|12~",
		"\t|\t", "\n|\n", "\x00|\x00", "\x7f|\x7f", "\xff|\xff", "\xe2|\x80|\x8b", "\xc2|\xa0~",
		"a|{|z", "a|`|z", "A|@|Z", "A|[|Z", "0|/|9", "0|:|9", "}|}", "\x1f| |!",
	} {
		if got := cutOf(t, d, strings.ReplaceAll(want, "|", "")); got != want {
			t.Errorf("P8: cut is %q, want %q", got, want)
		}
	}
}

// listed: a list, and the pieces into which it cuts a text.
type listed struct{ list, pieces string }

func holdPieces(t *testing.T, promise string, cases []listed) {
	t.Helper()
	for _, c := range cases {
		d := mustBuild(t, c.list)
		if got := cutOf(t, d, strings.ReplaceAll(c.pieces, "|", "")); got != c.pieces {
			t.Errorf("%s: by %q cut is %q, want %q", promise, c.list, got, c.pieces)
		}
	}
}

func TestCutSmall(t *testing.T) {
	holdPieces(t, "P9", []listed{
		{"", "a|b|c"},
		{"A=0,AB=0", "a|b"},
		{"b=0", "a|b|c"},
		{"ab=0", "ab|ab|ab"},
		{"ab=0", "b|ab|a"},

		// The least sum, whatever the lengths and the number of pieces.
		{"ab=999", "ab"},
		{"ab=1000", "a|b"},
		{"a=499,ab=1000", "a|b"},
		{"a=499,b=500,ab=998", "ab"},
		{"abc=500", "abc"},
		{"abc=1000,ab=499", "ab|c"},
		{"abc=1000,bc=499", "a|bc"},
		{"ab=400,bc=300,c=200", "ab|c"},
		{"ab=400,bc=50,c=200", "a|bc"},
		{"ab=400,bc=300,c=200,abcd=1000,d=200", "ab|c|d"},
		{"aaaa=3,aa=1", "aa|aa"},
		{"aaaa=1,aa=1", "aaaa"},
		{"ab=0,bcdef=0,cdef=1000", "a|bcdef"},
		{"ab=0,bcdef=501,cdef=1000", "ab|cdef"},

		// A cluster never costs more than Unknown.
		{"a=1000", "a|a"},
		{"a=501,aa=1000", "a|a"},
		{"a=501,aa=999", "aa"},
		{"a=0,aa=0", "a|a"},

		// Of the same sum the least list of boundaries.
		{"a=500,aa=1000", "a|a"},
		{"ab=500,b=0", "a|b"},
		{"ab=10,c=10,abc=20", "ab|c"},
		{"ab=10,c=10,a=10,bc=10", "a|bc"},
		{"ab=10,cd=10,abc=10,d=10", "ab|cd"},
		{"ab=10,cdef=10,abcd=10,ef=10", "ab|cdef"},
		{"aa=0,aaa=0", "aa|aaa"},
		{"aa=0,aaa=0", "aa|aa|aa"},
		{"aa=0,aaa=0", "aa|aa|aaa"},
		{"abc=3,d=1,ab=2,cd=2", "ab|cd"},
		{"abc=3,d=0,ab=2,cd=2", "abc|d"},
		{"x=0,ab=10,cde=10,abc=10,de=10", "x|ab|cde|x"},
		{"a=5,bcd=5,ab=4,cd=6,abc=3,d=7,abcd=10", "a|bcd"},
		{"a=5,bcd=6,ab=4,cd=6,abc=3,d=7,abcd=10", "ab|cd"},

		// Where words stand: between clusters alone.
		{"a~=0", "a|a~|a"},
		{"a=0", "a|a~|a"},
		{"a~=0", "a~~"},
		{"a~b=0,ab=0", "a~b|ab"},
		{"a~b=0", "a~|b~"},
		{"a~b=0", "a~~|b"},
		{"a~b=0", "a|b"},
		{"a~b~=0", "a~b~"},
		{"b=0,ab=0", "a~|b"},
		{"ab=0,b~=0", "a|b~"},
		{"a~~~~~~~~~~~=0", "a~~~~~~~~~~~|a"},
		{"a~~~~~~~~~~~=0", "a~~~~~~~~~~~~|a"},

		// Words of the greatest length, and what lies behind them.
		{"abcdefghijkl=0", "abcdefghijkl"},
		{"abcdefghijkl=0", "a|b|c|d|e|f|g|h|i|j|k"},
		{"abcdefghijkl=0", "m|abcdefghijkl|m"},
		{"abcdefghijkl=0", "a|b|c|d|e|f|g|h|i|j|k|l~"},
	})
}

func TestCutCapitals(t *testing.T) {
	holdPieces(t, "P10", []listed{
		{"", "ABC"},
		{"a=0,ab=0", "AB"},
		{"AB=0", "AB|AB|AB"},
		{"AB=0", "B|AB|A"},

		// Where no word stands: up to where one does.
		{"C=1", "AB|C|AB"},
		{"C=1", "C|C|AB"},
		{"BCD=1,C=1", "A|BCD|A"},
		{"CD=1", "ABC"},
		{"CD=1", "ABC~D"},
		{"C=1", "ABC~|C"},
		{"C~=1", "ABC|C~|C"},
		{"C=1", "A~B~|C|B~"},

		// Rows of three words, not of fewer nor of more.
		{"A=1,AB=1,BCD=1", "A|BCD"},
		{"A=1,AB=1,B=1,CDE=1,C=1", "AB|CDE"},
		{"A=1,AB=1,B=1,CDE=1", "AB|CDE"},
		{"A=1,AB=1,BC=1,DE=1", "A|BC|DE"},
		{"A=1,AB=1,BC=1,DE=1,C=1", "AB|C|DE"},
		{"A=1,AB=1,BC=1,D=1,C=1,DEF=1,E=1", "AB|C|DEF"},
		{"A=1,AB=1,B=1,C=1,DEF=1", "AB|C|DEF"},
		{"A=1,AB=1,BC=1,D=1,EF=1,C=1", "AB|C|D|EF"},
		{"A=1,AB=1,B=1,C=1,D=1,EFGH=1", "AB|C|D|EFGH"},
		{"A=1,BC=1,D=1,EFG=1,AB=1,CDE=1", "AB|CDE|FG"},
		{"AB=1,ABC=1,CD=1,DE=1,EF=1", "AB|CD|EF"},
		{"AB=1,ABC=1,CD=1,DE=1,EF=1,FG=1", "ABC|DE|FG"},
		{"AB=1,ABC=1,C=1,D=1,DE=1,E=1,FGHIJ=1", "ABC|DE|FGHIJ"},
		{"A=1,ABC=1,B=1,C=1,CDE=1", "A|B|CDE"},
		{"A=1,ABC=1,B=1,C=1,D=1,DEF=1,CDEF=1", "ABC|DEF"},
		{"A=1,ABC=1,B=1,BC=1,D=1,E=1,DE=1,F=1", "ABC|DE|F"},

		// Of rows that reach as far the longest first word.
		{"A=1,AA=1,AAA=1", "AAA|A"},
		{"A=1,AA=1,AAA=1", "AAA|AAA|AAA"},
		{"AB=1,ABC=1,CD=1,D=1", "ABC|D"},
		{"A=1,AB=1,B=1", "AB|B|A"},
		{"A=1,AB=1,ABC=1,BC=1,C=1", "ABC|X"},
		{"A=1,ABCD=1,ABC=1,AB=1,CDE=1,DE=1,BCDE=1", "ABC|DE"},

		// Costs do not matter.
		{"AB=1000,A=0,B=0", "AB"},
		{"A=1000,B=1000", "A|B"},

		// A row may end before the run, and goes on from its first word.
		{"A=1,AB=1,BC=1", "A|BC|X"},
		{"A=1,AB=1,BC=1", "A|BC|XYZ|A"},
		{"ABCDEFGHIJKL=1,A=1", "ABCDEFGHIJKL|MN|A|B"},
		{"ABCDEFGHIJKL=1", "ABCDEFGHIJK"},

		// Rows do not reach into the next run.
		{"ABC=1,D=1,E=1,AB=1,CDE=1,ab=1", "ABC|D|E"},
		{"ABC=1,D=1,E=1,AB=1,CDE=1,ab=1", "ABC|D|E|ab"},
		{"A=1,AB=1,BC=1,C=1,D=1,ab=1,CD=1", "AB|CD|ab"},

		// Where words stand: between clusters alone.
		{"AB=1", "AB~"},
		{"AB=1,A=1", "A|B~"},
		{"AB~=1,A=1", "AB~|A"},
		{"A~B=1,A~=1", "A~|B~"},
		{"A=1,AB=1,BC=1", "AB|C~"},
		{"A~=1", "A|A~|A"},
		{"A=1", "A~~|A|A~"},
	})
}
