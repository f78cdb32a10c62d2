package entries

import (
	"slices"
	"testing"

	"wordcut/api"
)

func TestReadEntries(t *testing.T) {
	got, e, at := Read("ab=20,abc=007,A~!,z=1000")
	want := []Entry{
		{Word: "ab", In: true, Cost: 20, Digits: 3},
		{Word: "abc", In: true, Cost: 7, Digits: 10},
		{Word: "A~"},
		{Word: "z", In: true, Cost: 1000, Digits: 20},
	}
	if !slices.Equal(got, want) || e != api.OK || at != 0 {
		t.Errorf("Read = %v, %d, %d, want %v", got, e, at, want)
	}
}

func TestReadNothingWithAnError(t *testing.T) {
	for _, list := range []string{"a=1,b", "a=1,b=1001", string(make([]byte, 2001))} {
		got, e, _ := Read(list)
		if got != nil || e == api.OK {
			t.Errorf("Read(%.20q) = %v, %d", list, got, e)
		}
	}
}
