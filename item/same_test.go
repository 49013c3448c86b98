package item_test

import (
	"math"
	"testing"

	"avouch/item"
)

// P12.2: items that differ in their labels alone are the same; those that differ in one of the other three aren't.
func TestSameKnown(t *testing.T) {
	x := item.Item{Kind: item.Absorb, Type: item.Bytes, Count: 3, Label: "a"}
	for _, c := range []struct {
		y    item.Item
		want bool
	}{
		{x, true},
		{item.Item{Kind: item.Absorb, Type: item.Bytes, Count: 3, Label: "b"}, true},
		{item.Item{Kind: item.Absorb, Type: item.Bytes, Count: 3}, true},
		{item.Item{Kind: item.Absorb, Type: item.Bytes, Count: 3, Label: long[:256]}, true},
		{item.Item{Kind: item.Squeeze, Type: item.Bytes, Count: 3, Label: "a"}, false},
		{item.Item{Kind: item.Absorb, Type: item.Field, Count: 3, Label: "a"}, false},
		{item.Item{Kind: item.Absorb, Type: item.Bytes, Count: 4, Label: "a"}, false},
		{item.Item{Kind: item.Absorb, Type: item.Bytes, Count: 3 + 1<<32, Label: "a"}, false},
		{item.Item{Kind: item.Absorb + 256, Type: item.Bytes, Count: 3, Label: "a"}, false},
		{item.Item{Kind: item.Absorb, Type: item.Bytes + 256, Count: 3, Label: "a"}, false},
		{item.Item{Kind: item.Absorb, Type: 3, Count: item.Bytes, Label: "a"}, false},
		{item.Item{}, false},
	} {
		if item.Same(x, c.y) != c.want || item.Same(c.y, x) != c.want {
			t.Errorf("%s and %s: not %t", told(x), told(c.y), c.want)
		}
	}
}

// P12.2, K1: of any two items, also of those that may not be.
func TestSameOfAnyItems(t *testing.T) {
	numbers := []int{math.MinInt, -1, 0, 1, 2, 3, math.MaxInt}
	var l []item.Item
	for _, kind := range numbers {
		for _, typ := range numbers {
			for _, count := range numbers {
				for _, label := range []string{"", "a", long[:300]} {
					l = append(l, item.Item{Kind: kind, Type: typ, Count: count, Label: label})
				}
			}
		}
	}
	for _, x := range l {
		for _, y := range l {
			want := x.Kind == y.Kind && x.Type == y.Type && x.Count == y.Count
			if item.Same(x, y) != want {
				t.Fatalf("%s and %s: not %t", told(x), told(y), want)
			}
		}
	}
}

// K5, of P12.2: the items that are asked keep their labels.
func TestSameChangesNothing(t *testing.T) {
	x, y := item.Item{Kind: 1, Type: 1, Count: 1, Label: "a"}, item.Item{Kind: 1, Type: 1, Count: 1, Label: "b"}
	if !item.Same(x, y) || x.Label != "a" || y.Label != "b" {
		t.Errorf("%s and %s", told(x), told(y))
	}
}
