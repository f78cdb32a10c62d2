package wordcut_test

import (
	"slices"

	"wordcut/api"
)

// What the document says of walks, written a second time by other means.

// course: the walk as the document tells it, by the places alone.
type course struct {
	dict   map[string]int
	text   string
	places []int
	place  int
}

func (c *course) kind() int {
	ahead := slices.DeleteFunc(slices.Clone(c.places), func(place int) bool { return place >= c.place })
	if len(ahead) == 0 {
		return api.None
	}
	from := slices.Max(ahead)
	switch sortRow(c.text)[from] {
	case 'd':
		return api.Number
	case 'b':
		return api.Blank
	case 's', 'c':
		if _, has := c.dict[c.text[from:c.place]]; has {
			return api.Word
		}
		return api.Strange
	}
	return api.None
}

// least and most: the lowest and the highest of the places that fit.
func (c *course) least(fits func(place int) bool) (int, bool) {
	for _, place := range c.places {
		if fits(place) {
			return place, true
		}
	}
	return 0, false
}

func (c *course) most(fits func(place int) bool) (int, bool) {
	for _, place := range slices.Backward(c.places) {
		if fits(place) {
			return place, true
		}
	}
	return 0, false
}

// turn: what one call of a walk does; k is what it is called with.
func (c *course) turn(call string, k int) int {
	above := func(place int) bool { return place > k }
	below := func(place int) bool { return place < k }
	last := c.places[len(c.places)-1]
	switch call {
	case "First":
		c.place = 0
		return 0
	case "Last":
		c.place = last
		return last
	case "Next":
		place, has := c.least(func(place int) bool { return place > c.place })
		return c.moved(place, has, c.place)
	case "Previous":
		place, has := c.most(func(place int) bool { return place < c.place })
		return c.moved(place, has, c.place)
	case "Following":
		place, has := c.least(above)
		return c.moved(place, has, last)
	case "Preceding":
		place, has := c.most(below)
		return c.moved(place, has, 0)
	}
	if slices.Contains(c.places, k) {
		c.place = k
		return yes
	}
	place, has := c.least(above)
	c.moved(place, has, last)
	return no
}

// moved: goes to the place if there is one, else to the other one.
func (c *course) moved(place int, has bool, other int) int {
	if has {
		c.place = place
		return place
	}
	c.place = other
	return api.Done
}
