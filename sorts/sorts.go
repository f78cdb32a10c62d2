// Package sorts: the sorts of bytes that lists, words and texts are made of.
package sorts

const (
	Other   = 0
	Small   = 1
	Capital = 2
	Digit   = 3
	Mark    = 4
	Blank   = 5
)

// Of tells the sort of a byte.
func Of(b byte) int {
	switch {
	case b >= 'a' && b <= 'z':
		return Small
	case b >= 'A' && b <= 'Z':
		return Capital
	case b >= '0' && b <= '9':
		return Digit
	case b == '~':
		return Mark
	case b == ' ':
		return Blank
	}
	return Other
}
