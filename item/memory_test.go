package item_test

import (
	"slices"
	"sync"
	"testing"

	"avouch/api"
	"avouch/item"
)

// K5, of P12.2: the bytes that are handed in are as they were, also those behind their end.
func TestDecodeChangesNothing(t *testing.T) {
	for _, x := range goodItems()[:40] {
		whole := append(bytesOf(x), 1, 2, 3, 4, 5)
		was := slices.Clone(whole)
		for end := range len(whole) + 1 {
			item.Decode(whole[:end])
		}
		if !slices.Equal(whole, was) {
			t.Errorf("%s: the bytes were changed", told(x))
		}
	}
}

// K5, of P12.2: an item's label, and the bytes behind the item, stay when the bytes that were handed in are changed.
func TestDecodeKeepsNothing(t *testing.T) {
	b := append([]byte{1, 1, 5, 0, 0, 0, 3, 0}, "abcdef"...)
	x, behind, err := item.Decode(b)
	for i := range b {
		b[i] = '?'
	}
	if err != api.OK || x != (item.Item{Kind: 1, Type: 1, Count: 5, Label: "abc"}) || string(behind) != "def" {
		t.Errorf("%s, %q, error %d", told(x), behind, err)
	}
}

// K5, of P12.2: what is answered behind an item may be changed, and appended to: nothing of what was handed in is
// changed, nor what stands behind its end.
func TestBytesBehindAreNew(t *testing.T) {
	for size := range 70 {
		whole := append([]byte{2, 3, 1, 0, 0, 0, 1, 0, 'x'}, long[:size+4]...)
		was := slices.Clone(whole)
		_, behind, err := item.Decode(whole[:len(whole)-4])
		if err != api.OK || len(behind) != size {
			t.Fatalf("%d bytes behind: %d, error %d", size, len(behind), err)
		}
		for i := range behind {
			behind[i] = '!'
		}
		behind = append(behind, '!', '!', '!')
		if !slices.Equal(whole, was) {
			t.Errorf("%d bytes behind: what was handed in is changed", size)
		}
	}
}

// P12.2: what is answered behind an item can't be written beyond: two who append to it share nothing.
func TestBytesBehindEndWhereTheyEnd(t *testing.T) {
	for size := range 70 {
		b := append([]byte{2, 3, 1, 0, 0, 0, 1, 0, 'x'}, long[:size]...)
		_, behind, err := item.Decode(b)
		if err != api.OK || cap(behind) != size {
			t.Fatalf("%d bytes behind, with room for %d, error %d", size, cap(behind), err)
		}
		one, two := append(behind, 1), append(behind, 2)
		if one[size] != 1 || two[size] != 2 {
			t.Errorf("%d bytes behind: %d and %d", size, one[size], two[size])
		}
	}
}

// K6, of P12.1 and P12.2: the same calls give the same answers, whatever came between, also at the same time.
func TestSameCallsSameAnswers(t *testing.T) {
	l := goodItems()
	var all sync.WaitGroup
	for range 4 {
		all.Go(func() {
			for _, x := range l {
				b, err := item.Encode(x)
				y, behind, back := item.Decode(b)
				if item.Check(x) != api.OK || err != api.OK || !slices.Equal(b, bytesOf(x)) || y != x || len(behind) != 0 || back != api.OK {
					t.Errorf("%s: %d, %s", told(x), b, told(y))
				}
				item.Decode(b[:len(b)-1])
				item.Encode(item.Item{Kind: x.Kind, Type: 9, Count: x.Count, Label: x.Label})
			}
		})
	}
	all.Wait()
}
