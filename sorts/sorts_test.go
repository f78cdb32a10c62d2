package sorts

import (
	"strings"
	"testing"
)

func TestOfEveryByte(t *testing.T) {
	for b := range 256 {
		want := Other
		one := string([]byte{byte(b)})
		switch {
		case strings.Contains("abcdefghijklmnopqrstuvwxyz", one):
			want = Small
		case strings.Contains("ABCDEFGHIJKLMNOPQRSTUVWXYZ", one):
			want = Capital
		case strings.Contains("0123456789", one):
			want = Digit
		case one == "~":
			want = Mark
		case one == "\x20":
			want = Blank
		}
		if got := Of(byte(b)); got != want {
			t.Errorf("Of(%d) = %d, want %d", b, got, want)
		}
	}
}
