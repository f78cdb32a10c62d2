package wordcut_test

import (
	"slices"
	"strings"
	"testing"

	"wordcut/api"
	"wordcut/wordcut"
)

func TestImageAnswers(t *testing.T) {
	for _, c := range []struct {
		why   string
		lists []string
		want  []byte
	}{
		{"the document's example", []string{"ab=300,abc=7"}, []byte{87, 67, 2, 0, 0, 2, 97, 98, 44, 1, 2, 1, 99, 7, 0, 5}},
		{"no lists", nil, []byte{87, 67, 0, 0, 102}},
		{"no entries", []string{"", ""}, []byte{87, 67, 0, 0, 102}},
		{"no words left", []string{"a=1", "a!"}, []byte{87, 67, 0, 0, 102}},
		{"a last byte of 0", []string{"a=3"}, []byte{87, 67, 1, 0, 0, 1, 97, 3, 0, 0}},
		{"a last byte of 1", []string{"a=2"}, []byte{87, 67, 1, 0, 0, 1, 97, 2, 0, 1}},
		{"a last byte of 255", []string{"a=4"}, []byte{87, 67, 1, 0, 0, 1, 97, 4, 0, 255}},
		{"a cost of 0", []string{"a=0"}, []byte{87, 67, 1, 0, 0, 1, 97, 0, 0, 3}},
		{"a cost of 255", []string{"a=255"}, []byte{87, 67, 1, 0, 0, 1, 97, 255, 0, 4}},
		{"a cost of 256", []string{"a=256"}, []byte{87, 67, 1, 0, 0, 1, 97, 0, 1, 2}},
		{"a cost of 1000", []string{"a=1000"}, []byte{87, 67, 1, 0, 0, 1, 97, 232, 3, 24}},
		{"zeros ahead of a cost", []string{"a=0003"}, []byte{87, 67, 1, 0, 0, 1, 97, 3, 0, 0}},
		{"the last cost", []string{"a=9,a=8", "a=3"}, []byte{87, 67, 1, 0, 0, 1, 97, 3, 0, 0}},
		{"capitals ahead of small letters, marks behind them", []string{"b=0,a~=0,ab=0,a=0", "A~=0,AB=0,B=0"}, []byte(sealed(
			'W', 'C', 7, 0,
			0, 2, 'A', 'B', 0, 0,
			1, 1, '~', 0, 0,
			0, 1, 'B', 0, 0,
			0, 1, 'a', 0, 0,
			1, 1, 'b', 0, 0,
			1, 1, '~', 0, 0,
			0, 1, 'b', 0, 0))},
		{"in common with the word ahead alone", []string{"abc=1,abd=2,ac=3,acd=4,b=5,bcde=6"}, []byte(sealed(
			'W', 'C', 6, 0,
			0, 3, 'a', 'b', 'c', 1, 0,
			2, 1, 'd', 2, 0,
			1, 1, 'c', 3, 0,
			2, 1, 'd', 4, 0,
			0, 1, 'b', 5, 0,
			1, 3, 'c', 'd', 'e', 6, 0))},
		{"the same bytes further on are not in common", []string{"abcd=1,acbd=2,bcbd=3"}, []byte(sealed(
			'W', 'C', 3, 0,
			0, 4, 'a', 'b', 'c', 'd', 1, 0,
			1, 3, 'c', 'b', 'd', 2, 0,
			0, 4, 'b', 'c', 'b', 'd', 3, 0))},
		{"words of 12 bytes", []string{"aaaaaaaaaaaa=1,aaaaaaaaaaab=2,aaaaaaaaaaa~=3"}, []byte(sealed(
			'W', 'C', 3, 0,
			0, 12, 'a', 'a', 'a', 'a', 'a', 'a', 'a', 'a', 'a', 'a', 'a', 'a', 1, 0,
			11, 1, 'b', 2, 0,
			11, 1, '~', 3, 0))},
	} {
		d := mustBuild(t, c.lists...)
		if got := d.Image(); got != string(c.want) {
			t.Errorf("P6: the image of %s is %v, want %v", c.why, []byte(got), c.want)
		}
		holdLoad(t, string(c.want))
	}
}

func TestImageHangsOnTheDictionaryAlone(t *testing.T) {
	want := mustBuild(t, "ab=20,abc=30,AB=1").Image()
	for _, lists := range [][]string{
		{"AB=1,abc=30,ab=20"},
		{"abc=30", "AB=1", "ab=20"},
		{"ab=5,x=1,abc=7,AB!", "x!", "ab=20,abc!,abc=30", "", "AB=1"},
	} {
		if got := mustBuild(t, lists...).Image(); got != want {
			t.Errorf("P6: the image of %q is %v, want %v", lists, []byte(got), []byte(want))
		}
	}
}

func TestImageOfThrownLists(t *testing.T) {
	d := dice(5)
	for range 2000 {
		lists := d.lists(8)
		want, e := wantBuild(lists)
		if e != api.OK {
			continue
		}
		if got := mustBuild(t, lists...).Image(); got != wantImage(want) {
			t.Fatalf("P6: the image of %q is %v, want %v", lists, []byte(got), []byte(wantImage(want)))
		}
	}
}

func TestImageOfFullDictionary(t *testing.T) {
	lists := []string{numbered(0, 150)}
	want, _ := wantBuild(lists)
	image := mustBuild(t, lists...).Image()
	if image != wantImage(want) {
		t.Errorf("P6: the image of 150 words is %v, want %v", []byte(image), []byte(wantImage(want)))
	}
	if !strings.HasPrefix(image, "WC\x96\x00") {
		t.Errorf("P6: the image of 150 words begins with %v", []byte(image[:4]))
	}
}

// An image is asked for between other calls: neither side may feel it.
func TestImageDoesNotChangeWithCalls(t *testing.T) {
	d := exampleDict(t)
	first := d.Image()
	bytes := []byte(first)
	for i := range bytes {
		bytes[i] = 0
	}
	hits := d.Prefixes("abcde")
	for i := range hits {
		hits[i] = api.Hit{}
	}
	mustBuild(t, "zz=1").Image()
	if second := d.Image(); second != first {
		t.Errorf("P2: an image changed from %v to %v", []byte(first), []byte(second))
	}
	want := []api.Hit{{Length: 2, Cost: 20}, {Length: 3, Cost: 30}}
	if got := d.Prefixes("abcde"); !slices.Equal(got, want) || d.Size() != 14 {
		t.Errorf("P2: Image changed its dictionary: Prefixes %v, Size %d", got, d.Size())
	}
}

// holdLoad holds Load against the document's rules for this text; it tells
// whether it is an image.
func holdLoad(t *testing.T, image string) bool {
	t.Helper()
	d, e := wordcut.Load(image)
	want := wantLoad(image)
	if want == nil {
		if d != nil || e != api.ErrImage {
			t.Fatalf("P7: Load(%v): error %d, the dictionary is nil: %v, want %d", []byte(image), e, d == nil, api.ErrImage)
		}
		return false
	}
	if d == nil || e != api.OK {
		t.Fatalf("P7: Load(%v): error %d, want a dictionary", []byte(image), e)
	}
	if d.Size() != len(want) {
		t.Fatalf("P7: Load(%v): Size %d, want %d", []byte(image), d.Size(), len(want))
	}
	for word, wantCost := range want {
		if got := cost(d, word); got != wantCost {
			t.Fatalf("P7: Load(%v): %s has the cost %d, want %d", []byte(image), word, got, wantCost)
		}
	}
	if got := d.Image(); got != image {
		t.Fatalf("P7: Load(%v) has the image %v", []byte(image), []byte(got))
	}
	return true
}
