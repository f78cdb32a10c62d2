package wordcut_test

import (
	"slices"
	"strconv"
	"strings"
	"testing"

	"wordcut/api"
	"wordcut/wordcut"
)

func TestCutBound(t *testing.T) {
	d := mustBuild(t, "a=1,ab=7,A=1,AA=2,b~=5")
	for _, one := range []string{"a", "b", "A", "B", "1", " ", ".", "~", "\x00", "\xff"} {
		text := strings.Repeat(one, 500)
		if got := strings.ReplaceAll(cutOf(t, d, text), "|", ""); got != text {
			t.Errorf("P8: Cut of 500 times %q: the pieces are %.40q", one, got)
		}
		for _, length := range []int{501, 502, 1000, 65536, 65536 + 500, 9000000} {
			if got, e := d.Cut(strings.Repeat(one, length)); got != nil || e != api.ErrLong {
				t.Errorf("P8: Cut of %d times %q has %d boundaries, error %d, want nil, %d", length, one, len(got), e, api.ErrLong)
			}
		}
	}
	for _, c := range []struct {
		text  string
		count int
	}{
		{strings.Repeat("a", 500), 501},
		{strings.Repeat("b", 500), 501},
		{strings.Repeat("A", 500), 251},
		{strings.Repeat("B", 500), 2},
		{strings.Repeat("1", 500), 2},
		{strings.Repeat(" ", 500), 2},
		{strings.Repeat(".", 500), 501},
		{strings.Repeat("~", 500), 2},
		{strings.Repeat("b~", 250), 251},
		{strings.Repeat("aA", 250), 501},
		{"a" + strings.Repeat("~", 499), 2},
	} {
		if got, e := d.Cut(c.text); e != api.OK || len(got) != c.count {
			t.Errorf("P8: Cut(%.10q...) has %d boundaries, error %d, want %d", c.text, len(got), e, c.count)
		}
	}
}

// everyRow calls for each row of at most so many of these bytes.
func everyRow(alphabet string, most int, call func(text string)) {
	rows := []string{""}
	for range most + 1 {
		var longer []string
		for _, row := range rows {
			call(row)
			for i := range len(alphabet) {
				longer = append(longer, row+alphabet[i:i+1])
			}
		}
		rows = longer
	}
}

func TestCutEveryByte(t *testing.T) {
	d := mustTell(t, "a=1,ab=1,a~=1,aa=3,b=500,A=1,AB=1,A~=1")
	for b := range 256 {
		one := string([]byte{byte(b)})
		for _, text := range []string{"", "a", "ab", "A", "AB", "1", " ", ".", "~", "a~"} {
			for _, whole := range []string{text + one, one + text, text + one + text, text + one + one + text, one + "~" + one + text, one + text + one} {
				d.holdCut(t, whole)
			}
		}
	}
}

func TestCutEveryShortText(t *testing.T) {
	for _, c := range []struct {
		list, alphabet string
		most           int
	}{
		{"a=1,ab=1,ab~=3,ba=500,A=1,AB=1,A~A=1", "abA~ 1.", 4},
		{"", "aA~ 1.", 4},
		{"a~=2,ab=2,b~~=0,ba~=7,aab=4", "ab~", 7},
		{"a=1,aa=2,ab=2,ba=2,bab=3,bbb=501,b=2", "ab", 9},
		{"aa=500,ab=1000,ba=999,aba=1000,bb=0", "ab", 9},
		{"aa=0,aaa=0,ab=0,bba=0,abab=0", "ab", 9},
		{"ab=5,bc=5,abc=10,c=5,ca=10,bca=505", "abc", 6},
		{"A=1,AA=1,AB=1,BA=1,BBA=1,ABB=1", "AB", 9},
		{"AB=1,ABA=1,BA=1,AAB=1,BBBB=1", "AB", 9},
		{"AB=1,A=1,BC=1,CA=1,BCA=1,CC=1", "ABC", 6},
		{"A~=1,AB=1,B~A=1,B=1,ABA=1,AA~=1", "AB~", 7},
	} {
		d := mustTell(t, c.list)
		everyRow(c.alphabet, c.most, func(text string) { d.holdCut(t, text) })
	}
}

// cutList: a list of words of these bytes, with few costs, so that many ways
// cost the same.
func (d *dice) cutList(letters string, most int) string {
	costs := []int{0, 1, 2, 3, 5, 10, 100, 499, 500, 501, 999, 1000}
	low := d.throw(len(costs))
	high := low + d.throw(len(costs)-low)
	var list []string
	for range d.throw(most) {
		word := d.text(letters, 1, 1) + d.text(letters+letters+"~", 0, 4)
		if d.throw(8) == 0 {
			word += d.text(letters, 1, 12-len(word))
		}
		cost := costs[low+d.throw(high-low+1)]
		list = append(list, word+"="+strconv.Itoa(cost))
	}
	return strings.Join(list, ",")
}

func TestCutThrownTexts(t *testing.T) {
	d := dice(5)
	for _, letters := range []string{"a", "ab", "abc", "A", "AB", "ABC"} {
		for range 300 {
			dict := mustTell(t, d.cutList(letters, 20))
			for range 15 {
				text := d.text(letters+letters+letters+letters+"~", 0, 9)
				dict.holdCut(t, text)
				dict.holdCut(t, d.text(letters+"~~. 1zZ", 0, 9)+text+d.text(letters+"~. 1zZ", 0, 5))
			}
		}
	}
}

func TestCutThrownLongTexts(t *testing.T) {
	d := dice(6)
	for _, letters := range []string{"a", "ab", "abc", "A", "AB", "ABC"} {
		for range 8 {
			dict := mustTell(t, d.cutList(letters, 40))
			for _, alphabet := range []string{letters, strings.Repeat(letters, 9) + "~", strings.Repeat(letters, 30) + " .1~"} {
				dict.holdCut(t, d.text(alphabet, 500, 500))
				dict.holdCut(t, d.text(alphabet, 10, 500))
			}
		}
	}
}

// As many words as can be stand at every place.
func TestCutOfFullDictionary(t *testing.T) {
	for _, letters := range []string{"ab", "AB"} {
		var entries []string
		everyRow(letters, 6, func(word string) {
			if word != "" {
				entries = append(entries, word+"="+strconv.Itoa(10*len(word)))
			}
		})
		for length := 7; length <= 12; length++ {
			for i := range 4 {
				word := strings.Repeat(letters[:1], length-2) + letters[i/2:i/2+1] + letters[i%2:i%2+1]
				entries = append(entries, word+"="+strconv.Itoa(10*length))
			}
		}
		d := mustTell(t, strings.Join(entries, ","))
		if d.Size() != 150 {
			t.Fatalf("the dictionary has %d words, want 150", d.Size())
		}
		d.holdCut(t, strings.Repeat(letters[:1], 500))
		d.holdCut(t, strings.Repeat(letters, 250))
	}
}

// split: the runs of a text.
func split(text string) []string {
	var runs []string
	for _, run := range runForm.FindAllStringIndex(sortRow(text), -1) {
		runs = append(runs, text[run[0]:run[1]])
	}
	return runs
}

// joined: the cuts of some texts, each by itself, put one behind the other.
func joined(t *testing.T, d *wordcut.Dict, texts []string) string {
	t.Helper()
	var pieces []string
	for _, text := range texts {
		pieces = append(pieces, cutOf(t, d, text))
	}
	return strings.Join(pieces, "|")
}

// bothList: a list of words in small letters and of words in capitals.
func (d *dice) bothList(most int) string {
	return strings.Trim(d.cutList("ab", most)+","+d.cutList("AB", most), ",")
}

func TestCutOfTextIsThatOfItsRuns(t *testing.T) {
	d := dice(7)
	for range 400 {
		list := d.bothList(12)
		dict := mustBuild(t, list)
		for range 10 {
			text := d.text("aabbAABB~. 1", 0, 30)
			if got, want := cutOf(t, dict, text), joined(t, dict, split(text)); got != want {
				t.Fatalf("P11: by %q cut is %q, its runs by themselves %q", list, got, want)
			}
		}
	}
}

func TestCutHangsOnRunAlone(t *testing.T) {
	d := dice(9)
	for range 600 {
		list := d.bothList(30)
		dict := mustBuild(t, list)
		for _, c := range []struct{ letters, others string }{{"ab", "AB"}, {"AB", "ab"}} {
			run := d.text(c.letters, 1, 1) + d.text(strings.Repeat(c.letters, 5)+"~", 0, 12)
			alone := cutOf(t, dict, run)
			for _, ahead := range []string{".", " ", "1~", "~", c.others, d.text(c.others, 1, 6), c.letters + "."} {
				for _, behind := range []string{".~", " ", "1", "\xff", c.others, d.text(c.others, 1, 6), " " + c.letters} {
					want := cutOf(t, dict, ahead) + "|" + alone + "|" + cutOf(t, dict, behind)
					if got := cutOf(t, dict, ahead+run+behind); got != want {
						t.Fatalf("P11: by %q cut is %q, want %q", list, got, want)
					}
				}
			}
		}
	}
}

func TestCutIsTheCallers(t *testing.T) {
	d := exampleDict(t)
	want := []int{0, 2, 3, 5, 6, 8, 9, 12, 16}
	text := "abcde.12 NOWHERE"
	first, _ := d.Cut(text)
	second, _ := d.Cut(text)
	d.Cut("xyzxyzxyzxyzxyzxyz")
	if !slices.Equal(first, want) || !slices.Equal(second, want) {
		t.Errorf("P2: a later call changed an earlier answer: %v, %v", first, second)
	}
	room := first[:cap(first)]
	for i := range room {
		room[i] = -7
	}
	if !slices.Equal(second, want) {
		t.Errorf("P2: writing into one answer changed another: %v", second)
	}
	if third, e := d.Cut(text); e != api.OK || !slices.Equal(third, want) {
		t.Errorf("P2: writing into an answer changed a later one: %v, %d", third, e)
	}
	empty, _ := d.Cut("")
	empty = append(empty[:0], 9, 9, 9)
	if again, e := d.Cut(""); e != api.OK || !slices.Equal(again, []int{0}) {
		t.Errorf("P2: writing into %v changed a later answer: %v, %d", empty, again, e)
	}
}

func TestCutLeavesDictionaryAlone(t *testing.T) {
	d := exampleDict(t)
	image := d.Image()
	for _, text := range []string{"", "abcde", "NOWHERE", "xyz", "ab12  ,,NO", strings.Repeat("a", 501)} {
		d.Cut(text)
	}
	if d.Image() != image || d.Size() != 14 {
		t.Errorf("P2: cutting changed the dictionary")
	}
}

func TestCutByLoadedDictionary(t *testing.T) {
	d := dice(8)
	for range 200 {
		dict := mustTell(t, d.bothList(20))
		dict.reload(t)
		for range 5 {
			dict.holdCut(t, d.text("aabbAABB~. 1", 0, 14))
		}
	}
}
