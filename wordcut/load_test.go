package wordcut_test

import (
	"maps"
	"slices"
	"strings"
	"testing"

	"wordcut/api"
	"wordcut/wordcut"
)

func image(count int, words ...[]byte) string {
	return sealed(append(head(count), slices.Concat(words...)...)...)
}

func TestLoadWhatIsNoImage(t *testing.T) {
	a := inImage(0, "a", 5)
	fine := image(2, a, inImage(1, "b", 6))
	for _, c := range []struct {
		why, image string
	}{
		{"nothing", ""},
		{"one byte", "W"},
		{"the name alone", "WC"},
		{"the name, sealed", sealed('W', 'C')},
		{"one byte of the number", sealed('W', 'C', 0)},
		{"no last byte", "WC\x00\x00"},
		{"a wrong last byte", "WC\x00\x00\x67"},
		{"a small name", sealed('w', 'c', 0, 0)},
		{"the name turned round", sealed('C', 'W', 0, 0)},
		{"a byte ahead of the name", sealed(append([]byte{0}, fine[:len(fine)-1]...)...)},
		{"a byte behind", fine + "\x00"},
		{"a byte behind, sealed", sealed([]byte(fine)...)},
		{"an image twice", fine + fine},
		{"a list", "ab=20"},

		{"a word less than told", image(2, a)},
		{"a word more than told", image(0, a)},
		{"two words, one told", image(1, a, inImage(1, "b", 6))},
		{"one word, 257 told", image(257, a)},
		{"no word, 256 told", image(256)},
		{"no word, 65535 told", image(65535)},
		{"the number with its high byte first", sealed('W', 'C', 0, 1, 0, 1, 'a', 5, 0)},

		{"words that fall", image(2, inImage(0, "b", 5), inImage(0, "a", 6))},
		{"a word behind its beginning's place", image(2, inImage(0, "ab", 5), inImage(1, "", 6))},
		{"small letters ahead of capitals", image(2, a, inImage(0, "A", 6))},
		{"a mark ahead of a letter", image(2, inImage(0, "a~", 5), inImage(1, "b", 6))},
		{"a word twice", image(2, a, inImage(1, "", 6))},
		{"a word twice, told whole", image(2, a, inImage(0, "a", 6))},
		{"a word twice, of the same cost", image(2, a, inImage(1, "", 5))},
		{"a word twice, one word told", image(1, a, inImage(1, "", 5))},
		{"a word twice, not side by side", image(3, a, inImage(0, "b", 5), inImage(0, "a", 5))},

		{"in common less than there is", image(2, a, inImage(0, "ab", 6))},
		{"in common one less than there is", image(2, inImage(0, "aab", 5), inImage(1, "ac", 6))},
		{"in common more than there is", image(2, a, inImage(2, "b", 6))},
		{"in common 255", image(2, a, inImage(255, "b", 6))},
		{"the first in common", image(1, inImage(1, "a", 5))},
		{"the first in common, no bytes more", image(1, inImage(1, "", 5))},

		{"the empty word", image(1, inImage(0, "", 5))},
		{"the empty word and another", image(2, inImage(0, "", 5), a)},
		{"a digit", image(1, inImage(0, "1", 5))},
		{"a digit in a word", image(1, inImage(0, "a1", 5))},
		{"a mark first", image(1, inImage(0, "~a", 5))},
		{"marks alone", image(1, inImage(0, "~~", 5))},
		{"small, then capital", image(1, inImage(0, "aA", 5))},
		{"capital, then small", image(1, inImage(0, "Aa", 5))},
		{"two sorts, with a mark between", image(1, inImage(0, "a~A", 5))},
		{"two sorts, one of them in common", image(2, a, inImage(1, "A", 5))},
		{"a blank", image(1, inImage(0, "a b", 5))},
		{"a byte of 0", image(1, inImage(0, "a\x00", 5))},
		{"a byte of 255", image(1, inImage(0, "a\xff", 5))},
		{"the byte ahead of a", image(1, inImage(0, "`", 5))},
		{"the byte behind z", image(1, inImage(0, "{", 5))},
		{"the byte ahead of A", image(1, inImage(0, "@", 5))},
		{"the byte behind Z", image(1, inImage(0, "[", 5))},
		{"13 bytes", image(1, inImage(0, "aaaaaaaaaaaaa", 5))},
		{"13 bytes, some in common", image(2, inImage(0, "aaaaaaaaaaaa", 5), inImage(12, "a", 6))},
		{"255 bytes", image(1, inImage(0, strings.Repeat("a", 255), 5))},

		{"a cost of 1001", image(1, inImage(0, "a", 1001))},
		{"a cost of 1024", image(1, inImage(0, "a", 1024))},
		{"a cost of 65535", image(1, inImage(0, "a", 65535))},
		{"a cost of 1001 of the last word", image(2, a, inImage(1, "b", 1001))},
		{"a cost of one byte", sealed('W', 'C', 1, 0, 0, 1, 'a', 5)},
		{"no cost", sealed('W', 'C', 1, 0, 0, 1, 'a')},
		{"fewer bytes than told", sealed('W', 'C', 1, 0, 0, 2, 'a', 5, 0)},
		{"far fewer bytes than told", sealed('W', 'C', 1, 0, 0, 255, 'a', 5, 0)},
		{"no bytes", sealed('W', 'C', 1, 0, 0, 1)},
		{"no number of bytes", sealed('W', 'C', 1, 0, 0)},
		{"no number in common", sealed('W', 'C', 1, 0)},
		{"more bytes than told", sealed('W', 'C', 1, 0, 0, 1, 'a', 'b', 5, 0)},
	} {
		d, e := wordcut.Load(c.image)
		if d != nil || e != api.ErrImage {
			t.Errorf("P7: Load of %s: error %d, the dictionary is nil: %v, want %d", c.why, e, d == nil, api.ErrImage)
		}
		if wantLoad(c.image) != nil {
			t.Errorf("the tests' own reading takes %s for an image", c.why)
		}
	}
}

func TestLoadAnswers(t *testing.T) {
	for _, c := range []struct {
		image string
		want  map[string]int
	}{
		{image(0), map[string]int{}},
		{image(1, inImage(0, "a", 1000)), map[string]int{"a": 1000}},
		{image(1, inImage(0, "Z~~", 0)), map[string]int{"Z~~": 0}},
		{image(2, inImage(0, "ab", 300), inImage(2, "c", 7)), map[string]int{"ab": 300, "abc": 7}},
		{image(3, inImage(0, "AZ", 1), inImage(0, "az", 256), inImage(1, "~", 255)), map[string]int{"AZ": 1, "az": 256, "a~": 255}},
		{image(2, inImage(0, "aaaaaaaaaaaa", 5), inImage(11, "b", 6)), map[string]int{"aaaaaaaaaaaa": 5, "aaaaaaaaaaab": 6}},
	} {
		d, e := wordcut.Load(c.image)
		if e != api.OK || d == nil {
			t.Errorf("P7: Load(%v): error %d", []byte(c.image), e)
			continue
		}
		if d.Size() != len(c.want) {
			t.Errorf("P7: Load(%v): Size %d, want %d", []byte(c.image), d.Size(), len(c.want))
		}
		for word, wantCost := range c.want {
			if got := cost(d, word); got != wantCost {
				t.Errorf("P7: Load(%v): %s has the cost %d, want %d", []byte(c.image), word, got, wantCost)
			}
		}
		if got := d.Image(); got != c.image {
			t.Errorf("P6: the image of Load(%v) is %v", []byte(c.image), []byte(got))
		}
	}
}

// As many words as there may be, and one more, short and long.
func TestLoadBoundOfWords(t *testing.T) {
	for _, begin := range []string{"", "abcdefghij", "ABCDEFGH~~"} {
		dict := map[string]int{}
		for i := range 160 {
			letters := string([]byte{byte('a' + i/26), byte('a' + i%26)})
			if begin != "" && begin[0] == 'A' {
				letters = strings.ToUpper(letters)
			}
			dict[begin+letters] = 1000
			is := holdLoad(t, wantImage(dict))
			if is != (i < 150) {
				t.Errorf("P7: Load of an image of %d words tells that it is one: %v", i+1, is)
			}
		}
	}
}

// An image with one byte turned into every other one, taken out, put in, or
// cut off, with its old last byte and with a fitting one.
func TestLoadOfEveryChange(t *testing.T) {
	taken := 0
	hold := func(bytes []byte) {
		if holdLoad(t, string(bytes)) {
			taken++
		}
		if len(bytes) > 0 && holdLoad(t, sealed(bytes[:len(bytes)-1]...)) {
			taken++
		}
		if holdLoad(t, sealed(bytes...)) {
			taken++
		}
	}
	for _, list := range []string{"", "a=3", "ab=300,abc=7", "A=1,B=2,b~=1000,ba=256,b=0"} {
		whole := []byte(mustBuild(t, list).Image())
		for i := range whole {
			hold(whole[:i:i])
			hold(slices.Delete(slices.Clone(whole), i, i+1))
			for b := range 256 {
				turned := slices.Clone(whole)
				turned[i] = byte(b)
				hold(turned)
				hold(slices.Insert(slices.Clone(whole), i, byte(b)))
			}
		}
	}
	if taken < 1000 {
		t.Errorf("only %d of all changes made an image: the changes test little", taken)
	}
}

// thrownImage: the image of a dictionary, or something close to one.
func (d *dice) thrownImage(dict map[string]int) string {
	words := slices.Sorted(maps.Keys(dict))
	if len(words) > 1 && d.throw(3) == 0 {
		i := d.throw(len(words) - 1)
		words[i] = words[i+d.throw(2)]
	}
	if len(words) > 1 && d.throw(3) == 0 {
		i := d.throw(len(words) - 1)
		words[i], words[i+1] = words[i+1], words[i]
	}
	bytes := head(len(words) + d.throw(8)/7)
	last := ""
	for _, word := range words {
		common := 0
		for common < len(last) && common < len(word) && last[common] == word[common] {
			common++
		}
		if common > 0 && d.throw(40) == 0 {
			common -= 1 + d.throw(common)
		}
		bytes = append(bytes, inImage(common, word[common:], dict[word]+d.throw(80)/79*500)...)
		last = word
	}
	return sealed(bytes...)
}

func TestLoadOfThrownImages(t *testing.T) {
	d := dice(6)
	var counts [2]int
	for range 5000 {
		dict, e := wantBuild(d.lists(3))
		if e != api.OK {
			continue
		}
		if holdLoad(t, d.thrownImage(dict)) {
			counts[1]++
		} else {
			counts[0]++
		}
	}
	if counts[0] < 500 || counts[1] < 500 {
		t.Errorf("%d images and %d others were thrown: too few of one", counts[1], counts[0])
	}
}

// A dictionary answers the same, whether it was built or loaded.
func TestLoadedAnswersAsBuilt(t *testing.T) {
	d := dice(7)
	for range 300 {
		lists := d.lists(6)
		built, e := wordcut.Build(lists)
		if e != api.OK {
			continue
		}
		loaded, e := wordcut.Load(built.Image())
		if e != api.OK {
			t.Fatalf("P7: Load of the image of %q: error %d", lists, e)
		}
		for range 40 {
			text := d.text("aabbAB~~", 0, 6)
			if got, want := loaded.Prefixes(text), built.Prefixes(text); !slices.Equal(got, want) {
				t.Fatalf("P7: of %q, loaded: Prefixes(%q) = %v, want %v", lists, text, got, want)
			}
		}
	}
}

func TestLoadedDictionariesDoNotTouchOneAnother(t *testing.T) {
	bytes := []byte(image(2, inImage(0, "a", 5), inImage(1, "b", 6)))
	first, e := wordcut.Load(string(bytes))
	if e != api.OK {
		t.Fatalf("P7: Load: error %d", e)
	}
	second, e := wordcut.Load(image(2, inImage(0, "a", 7), inImage(0, "c", 8)))
	if e != api.OK {
		t.Fatalf("P7: Load: error %d", e)
	}
	for i := range bytes {
		bytes[i] = 0
	}
	wordcut.Load(image(1, inImage(0, "a", 9), inImage(0, "c", 1001)))
	if first.Size() != 2 || cost(first, "a") != 5 || cost(first, "ab") != 6 || cost(first, "c") != -1 {
		t.Errorf("P2: a loaded dictionary was changed by later calls")
	}
	if second.Size() != 2 || cost(second, "a") != 7 || cost(second, "c") != 8 || cost(second, "ab") != -1 {
		t.Errorf("P2: a loaded dictionary was changed by later calls")
	}
	hits := first.Prefixes("ab")
	room := hits[:cap(hits)]
	for i := range room {
		room[i] = api.Hit{}
	}
	if cost(first, "a") != 5 || cost(first, "ab") != 6 {
		t.Errorf("P2: writing into an answer changed a loaded dictionary")
	}
}
