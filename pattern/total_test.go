package pattern_test

import (
	"math"
	"testing"

	"avouch/item"
	"avouch/pattern"
)

// totalled looks that a list has those sums.
func totalled(t *testing.T, l []item.Item, absorbed, squeezed int) {
	t.Helper()
	if in, out := pattern.Total(l); in != absorbed || out != squeezed {
		t.Errorf("%d items: %d and %d, not %d and %d", len(l), in, out, absorbed, squeezed)
	}
}

// P13.3: of no items 0 and 0; of mixed ones the sums of those that are meant.
func TestTotalKnown(t *testing.T) {
	totalled(t, nil, 0, 0)
	totalled(t, []item.Item{}, 0, 0)
	totalled(t, []item.Item{{}}, 0, 0)
	totalled(t, []item.Item{{Kind: item.Absorb, Type: item.Bytes, Count: 7}}, 7, 0)
	totalled(t, []item.Item{{Kind: item.Squeeze, Type: item.Field, Count: 7}}, 0, 7)
	totalled(t, []item.Item{{Kind: item.Ratchet, Count: 1}}, 0, 0)
	totalled(t, []item.Item{
		{Kind: item.Absorb, Type: item.Bytes, Count: 1},
		{Kind: item.Squeeze, Type: item.Bytes, Count: 10},
		{Kind: item.Ratchet, Count: 1},
		{Kind: item.Absorb, Type: item.Group, Count: 100, Label: "a"},
		{Kind: item.Absorb, Type: item.Field, Count: 1000, Label: "a"},
		{Kind: item.Squeeze, Type: item.Field, Count: 10000},
		{Kind: item.Ratchet, Count: 1},
		{Kind: item.Absorb, Type: item.Uint64, Count: 100000},
	}, 101101, 10010)
}

// P13.3: of each count at the edges, for each kind; those above MaxCount and below 0 count as 0.
func TestTotalOfCounts(t *testing.T) {
	for _, c := range []struct{ count, want int }{
		{0, 0}, {1, 1}, {2, 2}, {1<<20 - 1, 1<<20 - 1}, {1 << 20, 1 << 20},
		{1<<20 + 1, 0}, {1 << 21, 0}, {1<<32 + 1, 0}, {math.MaxInt, 0},
		{-1, 0}, {-1 << 20, 0}, {-1<<32 + 1, 0}, {math.MinInt, 0}, {math.MinInt + 1, 0},
	} {
		absorb, squeeze := item.Item{Kind: 1, Type: 1, Count: c.count}, item.Item{Kind: 2, Type: 1, Count: c.count}
		totalled(t, []item.Item{absorb}, c.want, 0)
		totalled(t, []item.Item{squeeze}, 0, c.want)
		totalled(t, []item.Item{{Kind: 3, Count: c.count}}, 0, 0)
		totalled(t, []item.Item{absorb, squeeze, absorb, squeeze, squeeze}, 2*c.want, 3*c.want)
		totalled(t, []item.Item{{Kind: 1, Count: 5}, absorb, {Kind: 2, Count: 6}, squeeze}, 5+c.want, 6+c.want)
	}
}

// P13.3: items of kinds that there aren't count nothing; the type and the label are of no matter.
func TestTotalOfStrangeItems(t *testing.T) {
	for _, kind := range []int{math.MinInt, -2, -1, 0, 3, 4, 257, 258, 1<<32 + 1, 1<<32 + 2, math.MaxInt} {
		totalled(t, []item.Item{{Kind: kind, Type: 1, Count: 5}}, 0, 0)
		totalled(t, []item.Item{{Kind: 1, Count: 3}, {Kind: kind, Type: 1, Count: 5}, {Kind: 2, Count: 4}}, 3, 4)
	}
	for _, typ := range []int{math.MinInt, -1, 0, 1, 2, 3, 4, 5, math.MaxInt} {
		totalled(t, []item.Item{{Kind: 1, Type: typ, Count: 5, Label: long}, {Kind: 2, Type: typ, Count: 6}}, 5, 6)
	}
}

// P13.3: more items than a pattern may have are summed up as well.
func TestTotalOfManyItems(t *testing.T) {
	l := make([]item.Item, 5000)
	for i := range l {
		l[i] = item.Item{Kind: 1 + i%2, Type: 1, Count: 1 << 20}
	}
	totalled(t, l, 2500<<20, 2500<<20)
}

// P13.3: of any lists the sums that are told one by one.
func TestTotalOfAnyItems(t *testing.T) {
	r := dice()
	for n := range 100 {
		l := anyItems(r, n)
		absorbed, squeezed := 0, 0
		for _, x := range l {
			switch x.Kind {
			case 1:
				absorbed += x.Count
			case 2:
				squeezed += x.Count
			}
		}
		totalled(t, l, absorbed, squeezed)
	}
}
