package pattern_test

import (
	"math"
	"slices"
	"testing"

	"avouch/api"
	"avouch/item"
	"avouch/pattern"
)

// P13.2: no items have no bytes (the chapter's example).
func TestSerialiseOfNoItems(t *testing.T) {
	serialised(t, nil, nil)
	serialised(t, []item.Item{}, nil)
	serialised(t, []item.Item{{}}[:0], nil)
}

// P13.2: bytes laid out by hand.
func TestSerialiseKnown(t *testing.T) {
	serialised(t, []item.Item{
		{Kind: item.Absorb, Type: item.Bytes, Count: 5, Label: "a"},
		{Kind: item.Ratchet, Type: item.Plain, Count: 1},
		{Kind: item.Squeeze, Type: item.Field, Count: 66051, Label: "\x00\xff"},
	}, []byte{
		1, 1, 5, 0, 0, 0, 1, 0, 97,
		3, 0, 1, 0, 0, 0, 0, 0,
		2, 3, 3, 2, 1, 0, 2, 0, 0, 255,
	})
}

// P13.2: of one item its bytes, of several theirs, one behind the other.
func TestSerialiseOfGoodItems(t *testing.T) {
	l := goodItems()
	for i, x := range l {
		serialised(t, []item.Item{x}, bytesOf(x))
		behind := l[(i*7+1)%len(l)]
		serialised(t, []item.Item{x, behind}, bytesOf(x, behind))
	}
	serialised(t, l, bytesOf(l...))
}

// P13.2: of 1023 and 1024 items their bytes, also of the longest labels.
func TestSerialiseOfMostItems(t *testing.T) {
	l := anyItems(dice(), 1024)
	serialised(t, l[:1023], bytesOf(l[:1023]...))
	serialised(t, l, bytesOf(l...))
	for i := range l {
		l[i].Label = long[i : i+255]
	}
	serialised(t, l, bytesOf(l...))
}

// P13.2: a 1025th item is one too many, whether it may be or not.
func TestSerialiseOfTooManyItems(t *testing.T) {
	l := anyItems(dice(), 1025)
	notSerialised(t, l, 1024, api.ErrMany)
	for _, c := range wrongItems() {
		notSerialised(t, with(l, 1024, c.x), 1024, api.ErrMany)
	}
	notSerialised(t, append(slices.Clone(l), l...), 1024, api.ErrMany)
	notSerialised(t, append(slices.Clone(l), item.Item{}), 1024, api.ErrMany)
}

// P13.2: a wrong item among the first 1024: its place and its error, also where there are too many items.
func TestSerialiseOfWrongItems(t *testing.T) {
	full := anyItems(dice(), 1100)
	for _, c := range wrongItems() {
		notSerialised(t, []item.Item{c.x}, 0, c.want)
		for _, place := range []int{0, 4, 8} {
			notSerialised(t, with(full[:9], place, c.x), place, c.want)
		}
		for _, size := range []int{1024, 1025, 1100} {
			for _, place := range []int{0, 1, 512, 1022, 1023} {
				notSerialised(t, with(full[:size], place, c.x), place, c.want)
			}
		}
	}
}

// P13.2, K1: items whose numbers have no room in their bytes are wrong as well.
func TestSerialiseOfFarItems(t *testing.T) {
	l := anyItems(dice(), 3)
	for _, c := range []wrongItem{
		{item.Item{Kind: -1, Type: 1, Count: 1}, api.ErrKind},
		{item.Item{Kind: 257, Type: 1, Count: 1}, api.ErrKind},
		{item.Item{Kind: math.MinInt, Type: 1, Count: 1}, api.ErrKind},
		{item.Item{Kind: 1, Type: 257, Count: 1}, api.ErrType},
		{item.Item{Kind: 3, Type: 256, Count: 1}, api.ErrType},
		{item.Item{Kind: 2, Type: -1, Count: 1}, api.ErrType},
		{item.Item{Kind: 1, Type: 1, Count: -1}, api.ErrCount},
		{item.Item{Kind: 1, Type: 1, Count: 1<<32 + 1}, api.ErrCount},
		{item.Item{Kind: 2, Type: 1, Count: math.MinInt}, api.ErrCount},
		{item.Item{Kind: 2, Type: 1, Count: math.MaxInt}, api.ErrCount},
		{item.Item{Kind: 1, Type: 1, Count: 1, Label: long + "a"}, api.ErrLabel},
		{item.Item{Kind: 1, Type: 1, Count: 1, Label: long + "aa"}, api.ErrLabel},
	} {
		for place := range l {
			notSerialised(t, with(l, place, c.x), place, c.want)
		}
	}
}

// P13.2, K2: of several wrong items the first one is told.
func TestSerialiseTellsTheFirstWrongItem(t *testing.T) {
	l := anyItems(dice(), 10)
	for _, one := range wrongItems() {
		for _, two := range wrongItems() {
			notSerialised(t, with(with(l, 3, one.x), 6, two.x), 3, one.want)
			notSerialised(t, []item.Item{one.x, two.x}, 0, one.want)
		}
	}
}

// P13.1, P13.2, P4: there and back, both ways: unlike lists have unlike bytes, by their labels as well.
func TestThereAndBack(t *testing.T) {
	r := dice()
	seen := map[string]string{}
	for n := range 300 {
		l := anyItems(r, n%40)
		b, _, err := pattern.Serialise(l)
		if err != api.OK {
			t.Fatal("error", err)
		}
		parsed(t, b, l)
		serialised(t, l, bytesOf(l...))
		again, _, _ := pattern.Parse(bytesOf(l...))
		serialised(t, again, b)
		if was, there := seen[string(b)]; there && was != all(l) {
			t.Errorf("two lists have the same bytes: %s and %s", was, all(l))
		}
		seen[string(b)] = all(l)
	}
}

// all tells the items of a list, each by its own.
func all(l []item.Item) string {
	out := ""
	for _, x := range l {
		out += told(x) + x.Label + "|"
	}
	return out
}
