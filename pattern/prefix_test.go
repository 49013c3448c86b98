package pattern_test

import (
	"math"
	"testing"

	"avouch/item"
	"avouch/pattern"
)

// P13.3: each list begins with none, with itself, and with each of its beginnings; not with one that is longer by one.
func TestPrefixOfBeginnings(t *testing.T) {
	for _, l := range [][]item.Item{anyItems(dice(), 12), strangeItems(), make([]item.Item, 5), anyItems(dice(), 1025)} {
		for end := range len(l) + 1 {
			if !pattern.Prefix(l, l[:end]) {
				t.Errorf("%d items don't begin with %d of them", len(l), end)
			}
			if end < len(l) && pattern.Prefix(l[:end], l[:end+1]) {
				t.Errorf("%d items begin with %d", end, end+1)
			}
		}
	}
	// A part that is longer is none, also where there is the same item in memory behind the list's end.
	l := make([]item.Item, 3)
	if pattern.Prefix(l[:2], l) || pattern.Prefix(l[:2], make([]item.Item, 3)) {
		t.Error("two items begin with three")
	}
}

// P13.3, K1: of no items, nil and empty ones being the same.
func TestPrefixOfNoItems(t *testing.T) {
	x := []item.Item{{Kind: 1, Type: 1, Count: 1}}
	for _, none := range [][]item.Item{nil, {}, x[:0]} {
		if !pattern.Prefix(none, nil) || !pattern.Prefix(nil, none) || !pattern.Prefix(none, []item.Item{}) || !pattern.Prefix(x, none) {
			t.Error("no list begins with none")
		}
		if pattern.Prefix(none, x) || pattern.Prefix(none, []item.Item{{}}) {
			t.Error("none begins with one")
		}
	}
}

// P13.3: a part whose kind, type or count is another one, at the first, a middle and the last place, is none; with another
// label it is one.
func TestPrefixOfOtherItems(t *testing.T) {
	for _, l := range [][]item.Item{anyItems(dice(), 9), strangeItems()} {
		for _, size := range []int{len(l) - 3, len(l)} {
			part := l[:size]
			for _, place := range []int{0, size / 2, size - 1} {
				x := l[place]
				for _, y := range []item.Item{
					{Kind: x.Kind + 1, Type: x.Type, Count: x.Count, Label: x.Label},
					{Kind: x.Kind, Type: x.Type - 1, Count: x.Count, Label: x.Label},
					{Kind: x.Kind, Type: x.Type, Count: x.Count + 1, Label: x.Label},
					{Kind: x.Kind + 256, Type: x.Type, Count: x.Count, Label: x.Label},
					{Kind: x.Kind, Type: x.Type + 1<<32, Count: x.Count, Label: x.Label},
					{Kind: x.Kind, Type: x.Type, Count: x.Count - 1<<32, Label: x.Label},
				} {
					if pattern.Prefix(l, with(part, place, y)) || pattern.Prefix(with(l, place, y), part) {
						t.Errorf("%s is %s at %d of %d", told(x), told(y), place, size)
					}
				}
				y := x
				y.Label += "other"
				if !pattern.Prefix(l, with(part, place, y)) || !pattern.Prefix(with(l, place, y), part) {
					t.Errorf("another label at %d of %d matters", place, size)
				}
			}
		}
	}
}

// P13.3: the labels alone are others, all of them.
func TestPrefixOfOtherLabels(t *testing.T) {
	l := anyItems(dice(), 20)
	other := anyItems(dice(), 20)
	for i := range other {
		other[i].Label = long[:i*30]
	}
	if !pattern.Prefix(l, other) || !pattern.Prefix(other, l[:7]) {
		t.Error("labels matter")
	}
}

// P13.3: a list begins with what stands at its beginning, not with what stands elsewhere in it.
func TestPrefixIsAtTheBeginning(t *testing.T) {
	a, b := item.Item{Kind: 1, Type: 1, Count: 1}, item.Item{Kind: 2, Type: 1, Count: 1}
	l := []item.Item{a, b, a, a}
	for _, part := range [][]item.Item{{b}, {b, a}, {a, a}, {a, b, b}, {b, a, a}, {a, b, a, b}} {
		if pattern.Prefix(l, part) {
			t.Errorf("%v is a beginning of %v", part, l)
		}
	}
}

// strangeItems may not be, and are held against each other all the same.
func strangeItems() []item.Item {
	return []item.Item{
		{}, {Kind: -1, Type: -1, Count: -1}, {Kind: math.MinInt, Type: math.MaxInt, Count: math.MinInt},
		{Kind: 4, Type: 9, Count: 1<<20 + 1, Label: long}, {Kind: 3, Type: 1, Count: 2}, {Kind: 1, Type: 0, Count: 0, Label: "a"},
	}
}
