package wordcut_test

import (
	"slices"
	"strings"
	"testing"

	"wordcut/api"
	"wordcut/wordcut"
)

func TestSizeOfExample(t *testing.T) {
	if n := exampleDict(t).Size(); n != 14 {
		t.Errorf("P5: Size of the document's example = %d, want 14", n)
	}
}

func TestPrefixesAnswers(t *testing.T) {
	example := exampleDict(t)
	marks := mustBuild(t, "a=1,a~=2,a~~=3,ab=4,a~b=5,b~=6")
	// A word of every length there is.
	steps := mustBuild(t, "a=1,aa=2,aaa=3,aaaa=4,aaaaa=5,aaaaaa=6,aaaaaaa=7,aaaaaaaa=8,aaaaaaaaa=9,aaaaaaaaaa=10,aaaaaaaaaaa=11,aaaaaaaaaaaa=12")
	var all []api.Hit
	for n := 1; n <= 12; n++ {
		all = append(all, api.Hit{Length: n, Cost: n})
	}
	none := mustBuild(t)
	for _, c := range []struct {
		d    *wordcut.Dict
		text string
		want []api.Hit
	}{
		{example, "abcde", []api.Hit{{Length: 2, Cost: 20}, {Length: 3, Cost: 30}}},
		{example, "", nil},
		{example, "a", nil},
		{example, "ab", []api.Hit{{Length: 2, Cost: 20}}},
		{example, "xab", nil},
		{example, "aab", nil},
		{example, "AB", []api.Hit{{Length: 2, Cost: 0}}},
		{example, "Ab", nil},
		{example, "NOWHERE", []api.Hit{{Length: 2, Cost: 1}, {Length: 3, Cost: 1}}},
		{example, "d\x00", []api.Hit{{Length: 1, Cost: 500}}},
		{example, "d\xff", []api.Hit{{Length: 1, Cost: 500}}},
		{example, "\x00d", nil},
		{example, "\xff", nil},
		{example, "~ab", nil},
		{example, "ab~", []api.Hit{{Length: 2, Cost: 20}}},
		{example, "cd" + strings.Repeat("c", 5000000), []api.Hit{{Length: 1, Cost: 10}, {Length: 2, Cost: 40}}},
		{marks, "a~~~", []api.Hit{{Length: 1, Cost: 1}, {Length: 2, Cost: 2}, {Length: 3, Cost: 3}}},
		{marks, "a~b", []api.Hit{{Length: 1, Cost: 1}, {Length: 2, Cost: 2}, {Length: 3, Cost: 5}}},
		{marks, "b", nil},
		{marks, "b~", []api.Hit{{Length: 2, Cost: 6}}},
		{steps, "aaaaaaaaaaaa", all},
		{steps, "aaaaaaaaaaaaa", all},
		{steps, "aaaaaaaaaaa", all[:11]},
		{steps, "aaaab", all[:4]},
		{none, "", nil},
		{none, "abc", nil},
	} {
		if got := c.d.Prefixes(c.text); !slices.Equal(got, c.want) {
			t.Errorf("P5: Prefixes(%.20q) = %v, want %v", c.text, got, c.want)
		}
	}
}

func TestPrefixesThrownTexts(t *testing.T) {
	d := dice(3)
	for range 500 {
		lists := d.lists(8)
		got, e := wordcut.Build(lists)
		want, _ := wantBuild(lists)
		if e != api.OK {
			continue
		}
		for range 50 {
			text := d.text("aabbAB~~", 0, 6)
			if d.throw(8) == 0 {
				text += d.text("\x00\xff ,=", 1, 20)
			}
			if hits := got.Prefixes(text); !slices.Equal(hits, wantPrefixes(want, text)) {
				t.Fatalf("P5: with Build(%q): Prefixes(%q) = %v, want %v", lists, text, hits, wantPrefixes(want, text))
			}
		}
	}
}

// A dictionary as full as can be, of words as long as can be.
func TestPrefixesOfFullDictionary(t *testing.T) {
	var lists [2]string
	var words []string
	for i := range 150 {
		word := "abcdefghij" + string([]byte{byte('a' + i%26), byte('a' + i/26)})
		words = append(words, word)
		lists[i%2] += "," + word + "=1000"
	}
	d := mustBuild(t, lists[0][1:], lists[1][1:])
	for _, word := range words {
		if got := d.Prefixes(word + word); !slices.Equal(got, []api.Hit{{Length: 12, Cost: 1000}}) {
			t.Errorf("P5: Prefixes(%q) = %v", word+word, got)
		}
	}
}
