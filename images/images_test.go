package images

import (
	"testing"

	"wordcut/words"
)

func TestReadWhatIsWritten(t *testing.T) {
	var set words.Set
	for _, word := range []string{"", "ab", "abc", "B~", "z"} {
		if word != "" {
			set.Put(word, 100*len(word))
		}
		image := Write(&set)
		read, is := Read(image)
		if !is || read.Size() != set.Size() {
			t.Errorf("Read(%q) = %v, %v", image, read, is)
		}
		again := Write(&read)
		if again != image {
			t.Errorf("of %q was written and read %q", image, again)
		}
	}
}

func TestReadNothingOfNoImage(t *testing.T) {
	var set words.Set
	set.Put("a", 1)
	image := Write(&set)
	for _, text := range []string{"", "W", image[:len(image)-1], image + image, "X" + image[1:]} {
		read, is := Read(text)
		if is || read.Size() != 0 {
			t.Errorf("Read(%q) = %v, %v", text, read, is)
		}
	}
}
