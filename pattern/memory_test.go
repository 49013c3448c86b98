package pattern_test

import (
	"slices"
	"sync"
	"testing"

	"avouch/api"
	"avouch/item"
	"avouch/pattern"
)

// K5, of P13.1: the bytes that are handed in are as they were, also those behind their end.
func TestParseChangesNothing(t *testing.T) {
	whole := bytesOf(anyItems(dice(), 20)...)
	was := slices.Clone(whole)
	for end := range len(whole) + 1 {
		l, _, _ := pattern.Parse(whole[:end])
		clear(l)
	}
	if !slices.Equal(whole, was) {
		t.Error("the bytes were changed")
	}
}

// K5, of P13.1: the items stay when the bytes that were handed in are changed.
func TestParseKeepsNothing(t *testing.T) {
	want := goodItems()
	b := bytesOf(want...)
	l, _, err := pattern.Parse(b)
	for i := range b {
		b[i] = '?'
	}
	if err != api.OK || !slices.Equal(l, want) {
		t.Error("the items changed with the bytes")
	}
}

// K5, of P13.1: two answers share nothing, nor do two who append to one of them.
func TestParsedItemsAreNew(t *testing.T) {
	for n := range 70 {
		want := anyItems(dice(), n)
		b := bytesOf(want...)
		one, _, _ := pattern.Parse(b)
		two, _, _ := pattern.Parse(b)
		clear(one)
		if !slices.Equal(two, want) {
			t.Errorf("%d items: two answers share memory", n)
		}
		three, four := append(two, item.Item{Count: 3}), append(two, item.Item{Count: 4})
		if three[n].Count != 3 || four[n].Count != 4 || !slices.Equal(two, want) {
			t.Errorf("%d items: two who append share memory", n)
		}
	}
}

// K5, of P13.2: the items that are handed in are as they were, also those behind their end.
func TestSerialiseChangesNothing(t *testing.T) {
	l := append(goodItems(), item.Item{}, item.Item{Kind: 1, Label: long})
	was := slices.Clone(l)
	for end := range len(l) + 1 {
		b, _, _ := pattern.Serialise(l[:end])
		clear(b)
	}
	if !slices.Equal(l, was) {
		t.Error("the items were changed")
	}
}

// K5, of P13.2: the bytes stay when the items that were handed in are changed; two answers share nothing, nor do two who
// append to one of them.
func TestSerialisedBytesAreNew(t *testing.T) {
	for n := range 70 {
		l := anyItems(dice(), n)
		want := bytesOf(l...)
		one, _, _ := pattern.Serialise(l)
		two, _, _ := pattern.Serialise(l)
		clear(l)
		clear(one)
		if !slices.Equal(two, want) {
			t.Errorf("%d items: the bytes were changed", n)
		}
		three, four := append(two, 3), append(two, 4)
		if three[len(want)] != 3 || four[len(want)] != 4 || !slices.Equal(two, want) {
			t.Errorf("%d items: two who append share memory", n)
		}
	}
}

// K5, of P13.3: the lists that are asked are as they were.
func TestAskingChangesNothing(t *testing.T) {
	l := append(goodItems(), strangeItems()...)
	part := slices.Clone(l[:50])
	was := slices.Clone(l)
	for i := range part {
		part[i].Label = "other"
	}
	other := slices.Clone(part)
	pattern.Prefix(l, part)
	pattern.Prefix(part, l)
	pattern.Total(l)
	pattern.Find(l, "a")
	pattern.Find(l, "nowhere")
	if !slices.Equal(l, was) || !slices.Equal(part, other) {
		t.Error("a list was changed")
	}
}

// K6, of P13.1, P13.2 and P13.3: the same calls give the same answers, whatever came between, also at the same time.
func TestSameCallsSameAnswers(t *testing.T) {
	l := anyItems(dice(), 300)
	l[200].Label = "here alone"
	b := bytesOf(l...)
	in, out := pattern.Total(l)
	var all sync.WaitGroup
	for range 4 {
		all.Go(func() {
			for range 20 {
				parsed(t, b, l)
				notParsed(t, b[:len(bytesOf(l[:3]...))+1], 3, api.ErrShort)
				serialised(t, l, b)
				notSerialised(t, []item.Item{{}}, 0, api.ErrKind)
				totalled(t, l, in, out)
				totalled(t, l[:0], 0, 0)
				found(t, l, "here alone", 200)
				found(t, l[:200], "here alone", -1)
				if !pattern.Prefix(l, l[:100]) || pattern.Prefix(l[:99], l[:100]) {
					t.Error("Prefix changed its mind")
				}
			}
		})
	}
	all.Wait()
}
