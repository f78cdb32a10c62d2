package wordcut_test

import (
	"encoding/binary"
	"maps"
	"regexp"
	"slices"
	"sort"
	"strconv"
	"strings"

	"wordcut/api"
)

// What the document says, written a second time by other means, to hold the
// program against.

const entryForm = `(?:[a-z][a-z~]{0,11}|[A-Z][A-Z~]{0,11})(?:=[0-9]{1,4}|!)`

var (
	listForm = regexp.MustCompile(`\A(?:` + entryForm + `(?:,` + entryForm + `)*)?\z`)
	costForm = regexp.MustCompile(`=([0-9]+)`)
	wordForm = regexp.MustCompile(`\A(?:[a-z][a-z~]{0,11}|[A-Z][A-Z~]{0,11})\z`)
)

// beginsList: some list begins with this text. One of these ends makes a list
// of every beginning of a list.
func beginsList(text string) bool {
	for _, end := range []string{"", "0", "=0", "a=0"} {
		if listForm.MatchString(text + end) {
			return true
		}
	}
	return false
}

func wantCheck(list string) (api.Errno, int) {
	if len(list) > 2000 {
		return api.ErrLong, 0
	}
	if !listForm.MatchString(list) {
		for i := range len(list) {
			if !beginsList(list[:i+1]) {
				return api.ErrForm, i
			}
		}
		return api.ErrForm, len(list)
	}
	for _, m := range costForm.FindAllStringSubmatchIndex(list, -1) {
		if cost, _ := strconv.Atoi(list[m[2]:m[3]]); cost > 1000 {
			return api.ErrCost, m[2]
		}
	}
	return api.OK, 0
}

func wantBuild(lists []string) (map[string]int, api.Errno) {
	if len(lists) > 8 {
		return nil, api.ErrMany
	}
	dict := map[string]int{}
	for _, list := range lists {
		if e, _ := wantCheck(list); e != api.OK {
			return nil, e
		}
		for _, entry := range strings.Split(list, ",") {
			word, cost, in := strings.Cut(entry, "=")
			if in {
				dict[word], _ = strconv.Atoi(cost)
			} else {
				delete(dict, strings.TrimSuffix(entry, "!"))
			}
		}
	}
	if len(dict) > 150 {
		return nil, api.ErrMany
	}
	return dict, api.OK
}

func wantPrefixes(dict map[string]int, text string) []api.Hit {
	var hits []api.Hit
	for word, cost := range dict {
		if strings.HasPrefix(text, word) {
			hits = append(hits, api.Hit{Length: len(word), Cost: cost})
		}
	}
	sort.Slice(hits, func(i, j int) bool { return hits[i].Length < hits[j].Length })
	return hits
}

// sealed: bytes, and the one by which their sum becomes a multiple of 256.
func sealed(bytes ...byte) string {
	for last := range 256 {
		image := string(bytes) + string([]byte{byte(last)})
		if sumOf(image)%256 == 0 {
			return image
		}
	}
	return ""
}

func sumOf(text string) int {
	sum := 0
	for i := range len(text) {
		sum += int(text[i])
	}
	return sum
}

// inImage: a word as it stands in an image.
func inImage(common int, rest string, cost int) []byte {
	bytes := append([]byte{byte(common), byte(len(rest))}, rest...)
	return binary.LittleEndian.AppendUint16(bytes, uint16(cost))
}

// head: what stands in an image ahead of so many words.
func head(count int) []byte {
	return binary.LittleEndian.AppendUint16([]byte("WC"), uint16(count))
}

func wantImage(dict map[string]int) string {
	bytes := head(len(dict))
	last := ""
	for _, word := range slices.Sorted(maps.Keys(dict)) {
		common := len(word)
		for !strings.HasPrefix(last, word[:common]) {
			common--
		}
		bytes = append(bytes, inImage(common, word[common:], dict[word])...)
		last = word
	}
	return sealed(bytes...)
}

// wantLoad: the dictionary of an image, or nil. Every rule by itself.
func wantLoad(image string) map[string]int {
	if len(image) < 5 || image[:2] != "WC" || sumOf(image)%256 != 0 {
		return nil
	}
	count := int(image[2]) + int(image[3])*256
	if count > 150 {
		return nil
	}
	dict := map[string]int{}
	last := ""
	left := image[4 : len(image)-1]
	for range count {
		if len(left) < 4 || len(left) < 4+int(left[1]) || int(left[0]) > len(last) {
			return nil
		}
		common := int(left[0])
		end := 2 + int(left[1])
		word := last[:common] + left[2:end]
		cost := int(left[end]) + int(left[end+1])*256
		if !wordForm.MatchString(word) || cost > 1000 || word <= last {
			return nil
		}
		if common < len(last) && strings.HasPrefix(word, last[:common+1]) {
			return nil
		}
		dict[word] = cost
		last = word
		left = left[end+2:]
	}
	if left != "" {
		return nil
	}
	return dict
}

// dice throws the same numbers in every run.
type dice uint32

func (d *dice) throw(n int) int {
	*d = *d*1664525 + 1013904223
	return int(uint32(*d)>>8) % n
}

func (d *dice) text(alphabet string, least, most int) string {
	text := make([]byte, least+d.throw(most-least+1))
	for i := range text {
		text[i] = alphabet[d.throw(len(alphabet))]
	}
	return string(text)
}

func (d *dice) word() string {
	if d.throw(4) == 0 {
		return "A" + d.text("AB~", 0, 3)
	}
	return d.text("ab", 1, 1) + d.text("ab~", 0, 3)
}

func (d *dice) list() string {
	var list []string
	for range d.throw(30) {
		if d.throw(3) == 0 {
			list = append(list, d.word()+"!")
		} else {
			list = append(list, d.word()+"="+strconv.Itoa(d.throw(1001)))
		}
	}
	return strings.Join(list, ",")
}

func (d *dice) lists(most int) []string {
	lists := make([]string, d.throw(most+1))
	for i := range lists {
		lists[i] = d.list()
	}
	return lists
}
