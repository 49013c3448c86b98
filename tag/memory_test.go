package tag_test

import (
	"slices"
	"sync"
	"testing"

	"avouch/api"
	"avouch/item"
	"avouch/tag"
)

// K5, of P14.1: the items that are handed in are as they were, also those behind their end, and wrong ones.
func TestTagChangesNothing(t *testing.T) {
	l := append(anyItems(dice(), 30), item.Item{}, item.Item{Kind: 1, Label: long})
	was := slices.Clone(l)
	for end := range len(l) + 1 {
		for _, backend := range []int{0, 1, 2} {
			tag.Tag(backend, l[:end])
		}
	}
	if !slices.Equal(l, was) {
		t.Error("the items were changed")
	}
}

// K5, of P14.1: a tag stays when the items, or another tag, are changed; the same array of items has then another one.
func TestTagKeepsNothing(t *testing.T) {
	l := anyItems(dice(), 20)
	want := wantedTag(2, l)
	one := tagOf(t, api.Fields, l)
	two := tagOf(t, api.Fields, l)
	l[7].Label += "!"
	one[0]++
	if two != want {
		t.Error("a tag was changed")
	}
	tagged(t, l)
}

// K5, of P14.2: a sponge stays when the tag is changed.
func TestSpongesKeepNoTag(t *testing.T) {
	x := [32]byte{1, 2, 3}
	s, f := tag.OfBytes(x), tag.OfFields(x)
	was := x
	clear(x[:])
	if b := s.State(); string(b[136:168]) != string(was[:]) {
		t.Errorf("%x", b)
	}
	if l := f.State(); !l[2].Equal(tag.Element(was)) {
		t.Errorf("%v", l)
	}
}

// K6, of P14.1 and P14.2: the same calls give the same answers, whatever came between, also at the same time.
func TestSameCallsSameAnswers(t *testing.T) {
	l := anyItems(dice(), 100)
	x := wantedTag(1, l)
	given := ofBytes().layerBelow(t, x).Squeeze(200)
	drawn := ofFields().layerBelow(t, x).Squeeze(3)
	var all sync.WaitGroup
	for range 4 {
		all.Go(func() {
			for range 5 {
				tagged(t, l)
				tagged(t, l[:3])
				notTagged(t, []item.Item{{}}, 0, api.ErrKind)
				ofBytes().expect(t, "what is given", tag.OfBytes(x).Squeeze(200), given)
				ofFields().expect(t, "what is given", tag.OfFields(x).Squeeze(3), drawn)
				if !tag.Element(about(1)).Equal(tag.Element([32]byte{1})) {
					t.Error("Element changed its mind")
				}
			}
		})
	}
	all.Wait()
}
