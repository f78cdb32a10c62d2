package wordcut_test

import (
	"slices"
	"strings"
	"testing"

	"wordcut/api"
	"wordcut/wordcut"
)

// everyText: texts of every single byte, of every pair with some, and of
// great length.
func everyText() []string {
	texts := []string{""}
	for b := range 256 {
		one := string([]byte{byte(b)})
		texts = append(texts, one, one+one, "a"+one, one+"a", "a="+one, "a=1"+one, "a!"+one, "a=1,"+one)
		texts = append(texts, strings.Repeat(one, 12), strings.Repeat(one, 13), strings.Repeat(one, 2000), strings.Repeat(one, 2001))
	}
	return append(texts, strings.Repeat("a=1,", 3000000), strings.Repeat("~", 10000000))
}

func TestNoCallPanics(t *testing.T) {
	example := exampleDict(t)
	none := mustBuild(t)
	for _, text := range everyText() {
		e, at := wordcut.Check(text)
		if at < 0 || at > len(text) || (e != api.ErrForm && e != api.ErrCost && at != 0) {
			t.Errorf("P1: Check(%.20q) = %d, %d", text, e, at)
		}
		for _, lists := range [][]string{{text}, {"a=1", text}, {text, text, text, text, text, text, text, text, text}} {
			d, buildE := wordcut.Build(lists)
			if (d == nil) != (buildE != api.OK) {
				t.Errorf("P1: Build(%.20q): error %d, the dictionary is nil: %v", lists, buildE, d == nil)
			}
			if len(lists) <= 8 && buildE != e {
				t.Errorf("P4: Build(%.20q): error %d, want %d", lists, buildE, e)
			}
		}
		for _, image := range []string{text, "WC" + text, "WC\x01\x00" + text, "WC\x01\x00\x00\x01" + text, "WC\x96\x00" + text, "WC\xff\xff" + text} {
			d, loadE := wordcut.Load(image)
			if (d == nil) != (loadE == api.ErrImage) || (d != nil) != (loadE == api.OK) {
				t.Errorf("P1: Load(%.20q): error %d, the dictionary is nil: %v", image, loadE, d == nil)
			}
		}
		for _, d := range []*wordcut.Dict{example, none} {
			places, cutE := d.Cut(text)
			if (places == nil) != (cutE == api.ErrLong) || (cutE == api.OK) != (len(text) <= 500) {
				t.Errorf("P1: Cut(%.20q) has %d boundaries, error %d", text, len(places), cutE)
			}
			w, beginE := d.Begin(text)
			if (w == nil) != (beginE != api.OK) || beginE != cutE {
				t.Errorf("P1: Begin(%.20q): error %d, the walk is nil: %v", text, beginE, w == nil)
			}
			if w != nil && !slices.Equal(boundariesOf(w), places) {
				t.Errorf("P12: a walk over %.20q does not go over its boundaries", text)
			}
		}
		example.Prefixes(text)
		if hits := none.Prefixes(text); len(hits) != 0 {
			t.Errorf("P5: Prefixes(%.20q) of no words = %v", text, hits)
		}
	}
}

// pack: eight lists that put in these words, as many as they can hold.
func pack(words []string) []string {
	var lists []string
	list := ""
	for _, word := range words {
		entry := word + "=1"
		if len(list)+1+len(entry) > 2000 {
			lists = append(lists, list)
			list = ""
		}
		if list != "" {
			list += ","
		}
		list += entry
	}
	lists = append(lists, list)
	return lists[:min(len(lists), 8)]
}

// As many words as eight lists can hold, in rising, in falling and in no
// order: Build must come to its end all the same.
func TestBuildOfAllThatFits(t *testing.T) {
	var rising []string
	for a := 'A'; a <= 'Z'; a++ {
		for b := 'A'; b <= 'Z'; b++ {
			word := string([]rune{a, b})
			rising = append(rising, word, word+"~", strings.ToLower(word), strings.ToLower(word)+"~")
		}
	}
	slices.Sort(rising)
	falling := slices.Clone(rising)
	slices.Reverse(falling)
	mixed := slices.Clone(rising)
	d := dice(4)
	for i := range mixed {
		j := d.throw(len(mixed))
		mixed[i], mixed[j] = mixed[j], mixed[i]
	}
	for _, words := range [][]string{rising, falling, mixed} {
		lists := pack(words)
		if d, e := wordcut.Build(lists); d != nil || e != api.ErrMany {
			t.Errorf("P4: Build of %d full lists = %v, %d, want %d", len(lists), d, e, api.ErrMany)
		}
		lists[7] = "a=1"
		for i := range 7 {
			lists[i] = strings.ReplaceAll(lists[i], "=1", "!")
		}
		if d, e := wordcut.Build(lists); e != api.OK || d.Size() != 1 {
			t.Errorf("P4: Build of lists that put words out: error %d", e)
		}
	}
}

func TestBuildLeavesListsAlone(t *testing.T) {
	room := []string{"ab=20,abc=30", "ab!,c=1", "spare", "room"}
	before := slices.Clone(room)
	d, e := wordcut.Build(room[:2])
	if e != api.OK || d == nil {
		t.Fatalf("P4: Build = %v, %d", d, e)
	}
	if !slices.Equal(room, before) {
		t.Errorf("P2: Build changed its lists, or their spare room, to %q", room)
	}
	if _, e := wordcut.Build(room[:3]); e != api.ErrForm {
		t.Errorf("P4: Build of no list: error %d", e)
	}
	if !slices.Equal(room, before) {
		t.Errorf("P2: Build with an error changed its lists, or their spare room, to %q", room)
	}
	for i := range room {
		room[i] = "a=1,abc!"
	}
	if d.Size() != 2 || cost(d, "abc") != 30 || cost(d, "c") != 1 {
		t.Errorf("P2: a dictionary changed with the lists it was built of")
	}
}

func TestPrefixesAreTheCallers(t *testing.T) {
	d := exampleDict(t)
	want := []api.Hit{{Length: 2, Cost: 20}, {Length: 3, Cost: 30}}
	first := d.Prefixes("abcde")
	second := d.Prefixes("abcde")
	d.Prefixes("NOWHERE")
	if !slices.Equal(first, want) || !slices.Equal(second, want) {
		t.Errorf("P2: a later call changed an earlier answer: %v, %v", first, second)
	}
	room := first[:cap(first)]
	for i := range room {
		room[i] = api.Hit{Length: -1, Cost: -1}
	}
	if !slices.Equal(second, want) {
		t.Errorf("P2: writing into one answer changed another: %v", second)
	}
	if third := d.Prefixes("abcde"); !slices.Equal(third, want) {
		t.Errorf("P2: writing into an answer changed a later one: %v", third)
	}
}

func TestDictionariesDoNotTouchOneAnother(t *testing.T) {
	lists := []string{"a=1,b=2,c=3"}
	first := mustBuild(t, lists...)
	second := mustBuild(t, "a=9,b!,d=4")
	third := mustBuild(t, lists...)
	for _, d := range []*wordcut.Dict{first, third} {
		if d.Size() != 3 || cost(d, "a") != 1 || cost(d, "b") != 2 || cost(d, "c") != 3 || cost(d, "d") != -1 {
			t.Errorf("P2: a dictionary was changed by building another")
		}
	}
	if second.Size() != 2 || cost(second, "a") != 9 || cost(second, "d") != 4 {
		t.Errorf("P2: a dictionary has words of another")
	}
}
