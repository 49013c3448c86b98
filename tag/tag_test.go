package tag_test

import (
	"encoding/hex"
	"math"
	"slices"
	"testing"

	"avouch/api"
	"avouch/item"
	"avouch/tag"
)

// P14.1: Domain is a constant, and that text.
func TestDomain(t *testing.T) {
	const domain = tag.Domain
	if domain != "avouch/transcript/1" || len(domain) != 19 {
		t.Errorf("%q", domain)
	}
}

// P14.1: digests of bytes that were laid out by hand, and reckoned by another program.
func TestTagKnown(t *testing.T) {
	l := []item.Item{
		{Kind: item.Absorb, Type: item.Bytes, Count: 5, Label: "a"},
		{Kind: item.Ratchet, Type: item.Plain, Count: 1},
		{Kind: item.Squeeze, Type: item.Field, Count: 66051, Label: "\x00\xff"},
	}
	for _, c := range []struct {
		backend int
		l       []item.Item
		want    string
	}{
		{api.Bytes, nil, "f326f4dc01bc86084573d03c8d7c586971c939e4b8d295d2d9faf5683c098064"},
		{api.Fields, nil, "0b527ad599c3df936e5ee0426006f12bf266f03688ffa575c5a76b80997516ae"},
		{api.Bytes, l, "2c346f07098dafda77f2642e86d16bbc23c8e00c64e149b648d73386a3cb4d87"},
		{api.Fields, l, "aa683280303d53fdc0a5f6b716e133c9e39e7746ad730c391133a213599d981d"},
	} {
		x := tagOf(t, c.backend, c.l)
		if got := hex.EncodeToString(x[:]); got != c.want {
			t.Errorf("backend %d, %d items: %s", c.backend, len(c.l), got)
		}
	}
}

// P14.1, K1: of no items, be they nil or an empty list.
func TestTagOfNoItems(t *testing.T) {
	tagged(t, nil)
	tagged(t, []item.Item{})
	tagged(t, []item.Item{{}}[:0])
}

// P14.1: of one item of each kind and type, with counts and labels at their edges, and of two.
func TestTagOfOneItem(t *testing.T) {
	counts := map[int][]int{1: {1, 256, 1048576}, 2: {1, 256, 1048576}, 3: {1}}
	for kind, types := range typesOf {
		for _, typ := range types {
			for _, count := range counts[kind] {
				for _, label := range []string{"", "a", "\x00", "\xff", long[:254], long[:255]} {
					x := item.Item{Kind: kind, Type: typ, Count: count, Label: label}
					tagged(t, []item.Item{x})
					tagged(t, []item.Item{x, {Kind: 3, Count: 1, Label: "b"}})
				}
			}
		}
	}
}

// P14.1: of several items, of 1023, and of 1024, also of the longest labels.
func TestTagOfManyItems(t *testing.T) {
	l := anyItems(dice(), 1024)
	for n := range 40 {
		tagged(t, l[100:100+n])
	}
	tagged(t, l[:1022])
	tagged(t, l[:1023])
	tagged(t, l)
	for i := range l {
		l[i].Label = (long + long)[i%700 : i%700+255]
	}
	tagged(t, l)
}

// ofSize gives a pattern of so many bytes, at least 8.
func ofSize(size int) []item.Item {
	var out []item.Item
	for size > 0 {
		label := min(size-8, 255)
		if left := size - 8 - label; left > 0 && left < 8 {
			label -= 8
		}
		out = append(out, item.Item{Kind: 1, Type: 1 + len(out)%4, Count: size, Label: long[:label]})
		size -= 8 + label
	}
	return out
}

// P14.1: of all numbers of bytes about the ends of the digest's blocks, which Domain and the backend stand ahead of.
func TestTagAboutBlocks(t *testing.T) {
	for size := 28; size < 5*136+4; size++ {
		l := ofSize(size - 20)
		if n := len(laid(1, l)); n != size {
			t.Fatal("a pattern of another size:", n, "for", size)
		}
		tagged(t, l)
	}
}

// P14.1: a backend that there isn't is told ahead of all that is wrong with the items.
func TestTagOfOtherBackends(t *testing.T) {
	many := anyItems(dice(), 1025)
	lists := [][]item.Item{nil, {}, many[:1], many[:1024], many, {{}}, with(many, 3, item.Item{}), append(slices.Clone(many), many...)}
	for _, c := range wrongItems() {
		lists = append(lists, []item.Item{c.x}, with(many[:9], 8, c.x))
	}
	for _, backend := range []int{0, 3, 4, 255, 256, 257, 258, 1 << 32, 1<<32 + 1, 1<<32 + 2, -1, -2, -255, -254, math.MinInt, math.MinInt + 1, math.MaxInt} {
		for _, l := range lists {
			if x, at, err := tag.Tag(backend, l); x != [32]byte{} || at != -1 || err != api.ErrBackend {
				t.Errorf("backend %d, %d items: tag %x, place %d, error %d", backend, len(l), x, at, err)
			}
		}
	}
}

// P14.1: a 1025th item is one too many, whether it may be or not.
func TestTagOfTooManyItems(t *testing.T) {
	l := anyItems(dice(), 1025)
	notTagged(t, l, 1024, api.ErrMany)
	notTagged(t, append(slices.Clone(l), l...), 1024, api.ErrMany)
	for _, c := range wrongItems() {
		notTagged(t, with(l, 1024, c.x), 1024, api.ErrMany)
	}
}

// P14.1: a wrong item at the first, a middle and the last place, also where there are too many items.
func TestTagOfWrongItems(t *testing.T) {
	full := anyItems(dice(), 1100)
	for _, c := range wrongItems() {
		notTagged(t, []item.Item{c.x}, 0, c.want)
		for _, size := range []int{9, 1024, 1025, 1100} {
			for _, place := range []int{0, 1, 4, min(size, 1024) / 2, min(size, 1024) - 1} {
				notTagged(t, with(full[:size], place, c.x), place, c.want)
			}
		}
	}
}

// P14.1, K2: of several wrong items the first one is told.
func TestTagTellsTheFirstWrongItem(t *testing.T) {
	l := anyItems(dice(), 10)
	for _, one := range wrongItems() {
		for _, two := range wrongItems() {
			notTagged(t, with(with(l, 3, one.x), 6, two.x), 3, one.want)
		}
	}
}

// P14.1: the chapter's example.
func TestTagsOfBothBackendsAreUnlike(t *testing.T) {
	r := dice()
	for n := range 30 {
		l := anyItems(r, n)
		if tagOf(t, api.Bytes, l) == tagOf(t, api.Fields, l) {
			t.Errorf("%d items: both backends have one tag", n)
		}
	}
}

// P14.1, P4: patterns that differ in a kind, a type, a count, a label, the order, or by an item, have unlike tags, and
// those of two backends too.
func TestTagsOfUnlikePatternsAreUnlike(t *testing.T) {
	a := item.Item{Kind: item.Absorb, Type: item.Bytes, Count: 3, Label: "ab"}
	b := item.Item{Kind: item.Squeeze, Type: item.Field, Count: 1, Label: "c"}
	c := item.Item{Kind: item.Ratchet, Count: 1, Label: "d"}
	lists := [][]item.Item{nil, {a}, {b}, {c}, {a, a}, {a, b}, {a, c}, {b, a}, {b, c}, {c, a}, {c, b}, {a, b, c}, {c, b, a}, {b, a, c}, {a, b, b}, {a, b, c, c}, {a, b, c, {Kind: item.Ratchet, Count: 1}}}
	for _, x := range []item.Item{
		{Kind: item.Squeeze, Type: item.Bytes, Count: 3, Label: "ab"},
		{Kind: item.Absorb, Type: item.Uint64, Count: 3, Label: "ab"},
		{Kind: item.Absorb, Type: item.Field, Count: 3, Label: "ab"},
		{Kind: item.Absorb, Type: item.Group, Count: 3, Label: "ab"},
		{Kind: item.Absorb, Type: item.Bytes, Count: 2, Label: "ab"},
		{Kind: item.Absorb, Type: item.Bytes, Count: 768, Label: "ab"},
		{Kind: item.Absorb, Type: item.Bytes, Count: 3 << 16, Label: "ab"},
		{Kind: item.Absorb, Type: item.Bytes, Count: 3},
		{Kind: item.Absorb, Type: item.Bytes, Count: 3, Label: "a"},
		{Kind: item.Absorb, Type: item.Bytes, Count: 3, Label: "ba"},
		{Kind: item.Absorb, Type: item.Bytes, Count: 3, Label: "ab\x00"},
		{Kind: item.Absorb, Type: item.Bytes, Count: 3, Label: "aB"},
	} {
		lists = append(lists, []item.Item{x}, []item.Item{x, b, c}, []item.Item{b, x, c}, []item.Item{b, c, x})
	}
	seen := map[[32]byte]bool{}
	for _, l := range lists {
		for _, backend := range both {
			x := tagOf(t, backend, l)
			if seen[x] || x == [32]byte{} {
				t.Errorf("backend %d, %v: the tag of another one", backend, l)
			}
			seen[x] = true
		}
	}
}
