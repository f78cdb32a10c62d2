package words

import "testing"

func TestIs(t *testing.T) {
	for text, want := range map[string]bool{
		"": false, "a": true, "Z": true, "a~": true, "A~B~~": true, "~": false, "~a": false,
		"aA": false, "Aa": false, "a~A": false, "a1": false, "1": false, "a b": false, "a\xff": false,
		"abcdefghijkl": true, "abcdefghijklm": false, "a~~~~~~~~~~~": true, "a~~~~~~~~~~~~": false,
	} {
		if got := Is(text); got != want {
			t.Errorf("Is(%q) = %v, want %v", text, got, want)
		}
	}
}

func TestEnd(t *testing.T) {
	for _, c := range []struct {
		text     string
		at, want int
	}{
		{"", 0, 0}, {"ab", 2, 2}, {"ab", 3, 3}, {"ab", -1, -1}, {"ab=1", 0, 2}, {"a=1,bc~!", 4, 7},
		{"abCD", 0, 2}, {"abCD", 2, 4}, {"~a", 0, 0}, {"aabcdefghijklm", 1, 13},
	} {
		if got := End(c.text, c.at); got != c.want {
			t.Errorf("End(%q, %d) = %d, want %d", c.text, c.at, got, c.want)
		}
	}
}
