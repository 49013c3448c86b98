package item_test

import (
	"math"
	"testing"

	"avouch/api"
	"avouch/item"
)

// The constants have the numbers that the chapter gives them.
func TestConstants(t *testing.T) {
	kinds := [...]int{item.Absorb, item.Squeeze, item.Ratchet}
	if kinds != [...]int{1, 2, 3} {
		t.Error("kinds", kinds)
	}
	types := [...]int{item.Plain, item.Bytes, item.Uint64, item.Field, item.Group}
	if types != [...]int{0, 1, 2, 3, 4} {
		t.Error("types", types)
	}
}

// The chapter's types: an item's fields are just these, in this order, and items are held against each other by ==.
func TestItemIsCompared(t *testing.T) {
	x := item.Item{1, 2, 3, "a"}
	if x != (item.Item{Kind: 1, Type: 2, Count: 3, Label: "a"}) {
		t.Error("the fields have another order")
	}
	if x == (item.Item{1, 2, 3, "b"}) || x == (item.Item{2, 2, 3, "a"}) {
		t.Error("unlike items are the same")
	}
}

// P12.1: OK of each kind with each type that it has, at the counts' and the labels' edges.
func TestCheckOfGoodItems(t *testing.T) {
	for _, x := range goodItems() {
		if err := item.Check(x); err != api.OK {
			t.Errorf("%s: error %d", told(x), err)
		}
	}
}

// P12.1: each error, where it is the only one, or where those named behind it apply as well.
func TestCheckKnown(t *testing.T) {
	for _, c := range []struct {
		x    item.Item
		want api.Errno
	}{
		{item.Item{}, api.ErrKind},
		{item.Item{Kind: 0, Type: item.Bytes, Count: 1}, api.ErrKind},
		{item.Item{Kind: -1, Type: item.Bytes, Count: 1}, api.ErrKind},
		{item.Item{Kind: 4, Type: item.Bytes, Count: 1}, api.ErrKind},
		{item.Item{Kind: 257, Type: item.Bytes, Count: 1}, api.ErrKind},
		{item.Item{Kind: math.MinInt, Type: item.Bytes, Count: 1}, api.ErrKind},
		{item.Item{Kind: math.MaxInt, Type: item.Bytes, Count: 1}, api.ErrKind},

		{item.Item{Kind: item.Absorb, Type: item.Plain, Count: 1}, api.ErrType},
		{item.Item{Kind: item.Absorb, Type: -1, Count: 1}, api.ErrType},
		{item.Item{Kind: item.Absorb, Type: 5, Count: 1}, api.ErrType},
		{item.Item{Kind: item.Absorb, Type: 257, Count: 1}, api.ErrType},
		{item.Item{Kind: item.Squeeze, Type: item.Plain, Count: 1}, api.ErrType},
		{item.Item{Kind: item.Squeeze, Type: item.Uint64, Count: 1}, api.ErrType},
		{item.Item{Kind: item.Squeeze, Type: item.Group, Count: 1}, api.ErrType},
		{item.Item{Kind: item.Squeeze, Type: -1, Count: 1}, api.ErrType},
		{item.Item{Kind: item.Squeeze, Type: 5, Count: 1}, api.ErrType},
		{item.Item{Kind: item.Ratchet, Type: item.Bytes, Count: 1}, api.ErrType},
		{item.Item{Kind: item.Ratchet, Type: item.Uint64, Count: 1}, api.ErrType},
		{item.Item{Kind: item.Ratchet, Type: item.Field, Count: 1}, api.ErrType},
		{item.Item{Kind: item.Ratchet, Type: item.Group, Count: 1}, api.ErrType},
		{item.Item{Kind: item.Ratchet, Type: math.MinInt, Count: 1}, api.ErrType},
		{item.Item{Kind: item.Ratchet, Type: math.MaxInt, Count: 1}, api.ErrType},

		{item.Item{Kind: item.Absorb, Type: item.Bytes, Count: 0}, api.ErrCount},
		{item.Item{Kind: item.Absorb, Type: item.Group, Count: -1}, api.ErrCount},
		{item.Item{Kind: item.Squeeze, Type: item.Bytes, Count: 1<<20 + 1}, api.ErrCount},
		{item.Item{Kind: item.Squeeze, Type: item.Field, Count: math.MinInt}, api.ErrCount},
		{item.Item{Kind: item.Absorb, Type: item.Uint64, Count: math.MaxInt}, api.ErrCount},
		{item.Item{Kind: item.Absorb, Type: item.Uint64, Count: 1<<32 + 1}, api.ErrCount},
		{item.Item{Kind: item.Ratchet, Count: 0}, api.ErrCount},
		{item.Item{Kind: item.Ratchet, Count: 2}, api.ErrCount},
		{item.Item{Kind: item.Ratchet, Count: 1 << 20}, api.ErrCount},

		{item.Item{Kind: item.Absorb, Type: item.Bytes, Count: 1, Label: long[:256]}, api.ErrLabel},
		{item.Item{Kind: item.Squeeze, Type: item.Field, Count: 1 << 20, Label: long[:257]}, api.ErrLabel},
		{item.Item{Kind: item.Ratchet, Count: 1, Label: long[:65536]}, api.ErrLabel},

		{item.Item{Kind: 4, Type: 9, Count: 1}, api.ErrKind},
		{item.Item{Kind: 4, Type: item.Bytes, Count: 0}, api.ErrKind},
		{item.Item{Kind: 4, Type: item.Bytes, Count: 1, Label: long[:256]}, api.ErrKind},
		{item.Item{Kind: item.Squeeze, Type: item.Group, Count: 0}, api.ErrType},
		{item.Item{Kind: item.Squeeze, Type: item.Group, Count: 1, Label: long[:256]}, api.ErrType},
		{item.Item{Kind: item.Ratchet, Count: 2, Label: long[:256]}, api.ErrCount},
		{item.Item{Kind: 0, Type: 9, Count: 0, Label: long[:256]}, api.ErrKind},
		{item.Item{Kind: item.Ratchet, Type: 9, Count: 0, Label: long[:256]}, api.ErrType},
	} {
		if err := item.Check(c.x); err != c.want {
			t.Errorf("%s: error %d, not %d", told(c.x), err, c.want)
		}
	}
}

// P12.1, K1, K2: of any item the error that the chapter names first, among them each two that may apply at once.
func TestCheckOfAnyItem(t *testing.T) {
	pairs := map[[2]api.Errno]bool{}
	for _, x := range anyItems() {
		l := wrongs(x)
		for i := range l {
			for _, later := range l[i+1:] {
				pairs[[2]api.Errno{l[i], later}] = true
			}
		}
		if err := item.Check(x); err != wrong(x) {
			t.Errorf("%s: error %d, not %d", told(x), err, wrong(x))
		}
	}
	// An item without a kind has no type that could be wrong by itself: that pair is held by TestCheckKnown.
	if len(pairs) != 5 {
		t.Error("pairs of errors:", pairs)
	}
}

// P12.1: a label's bytes are of no matter, its length in bytes is.
func TestCheckCountsBytesOfLabels(t *testing.T) {
	x := item.Item{Kind: item.Absorb, Type: item.Bytes, Count: 1}
	for _, c := range []struct {
		letter string
		most   int
	}{{"x", 255}, {"ß", 127}, {"€", 85}, {"\x00", 255}, {"\xff", 255}} {
		for _, n := range []int{c.most, c.most + 1} {
			x.Label = ""
			for range n {
				x.Label += c.letter
			}
			if err := item.Check(x); (err == api.OK) != (n == c.most) || err != wrong(x) {
				t.Errorf("%d of %q: error %d", n, c.letter, err)
			}
		}
	}
}
