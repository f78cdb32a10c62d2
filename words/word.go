package words

import (
	"wordcut/api"
	"wordcut/sorts"
)

// Is tells whether a text is a word.
func Is(text string) bool {
	return text != "" && End(text, 0) == len(text)
}

// End answers how far a word reaches from a place of a text on, MaxWord bytes
// at most; the place itself, if none begins there.
func End(text string, at int) int {
	if at < 0 || at >= len(text) {
		return at
	}
	letters := sorts.Of(text[at])
	if letters != sorts.Small && letters != sorts.Capital {
		return at
	}
	end := at + 1
	for end < len(text) && end < at+api.MaxWord {
		sort := sorts.Of(text[end])
		if sort != letters && sort != sorts.Mark {
			return end
		}
		end++
	}
	return end
}
