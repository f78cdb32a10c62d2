package kinds

import (
	"testing"

	"wordcut/api"
	"wordcut/words"
)

func TestOf(t *testing.T) {
	var set words.Set
	for _, word := range []string{"a", "ab~", "AB"} {
		set.Put(word, 1000)
	}
	for piece, want := range map[string]int{
		"": api.None, ".": api.None, ".~": api.None, "~": api.None, "~~": api.None, "\x00": api.None, "\xff~": api.None,
		"1": api.Number, "0~9": api.Number, " ": api.Blank, " ~ ": api.Blank,
		"a": api.Word, "ab~": api.Word, "AB": api.Word,
		"b": api.Strange, "a~": api.Strange, "ab": api.Strange, "ab~~": api.Strange, "A": api.Strange, "ABAB": api.Strange,
	} {
		if got := Of(piece, &set); got != want {
			t.Errorf("Of(%q) = %d, want %d", piece, got, want)
		}
	}
}
