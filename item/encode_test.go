package item_test

import (
	"bytes"
	"slices"
	"strings"
	"testing"

	"avouch/api"
	"avouch/item"
)

// P12.1: the chapter's example, and bytes that were laid out by hand.
func TestEncodeKnown(t *testing.T) {
	for _, c := range []struct {
		x    item.Item
		want []byte
	}{
		{item.Item{Kind: item.Absorb, Type: item.Bytes, Count: 5, Label: "a"}, []byte{1, 1, 5, 0, 0, 0, 1, 0, 97}},
		{item.Item{Kind: item.Absorb, Type: item.Uint64, Count: 255}, []byte{1, 2, 255, 0, 0, 0, 0, 0}},
		{item.Item{Kind: item.Absorb, Type: item.Field, Count: 256}, []byte{1, 3, 0, 1, 0, 0, 0, 0}},
		{item.Item{Kind: item.Absorb, Type: item.Group, Count: 1 << 20}, []byte{1, 4, 0, 0, 16, 0, 0, 0}},
		{item.Item{Kind: item.Squeeze, Type: item.Bytes, Count: 65535, Label: "\x00"}, []byte{2, 1, 255, 255, 0, 0, 1, 0, 0}},
		{item.Item{Kind: item.Squeeze, Type: item.Field, Count: 66051, Label: "\xff\x80!"}, []byte{2, 3, 3, 2, 1, 0, 3, 0, 255, 128, 33}},
		{item.Item{Kind: item.Ratchet, Count: 1, Label: "hi"}, []byte{3, 0, 1, 0, 0, 0, 2, 0, 104, 105}},
	} {
		if b := mustEncode(t, c.x); !slices.Equal(b, c.want) {
			t.Errorf("%s: %d, not %d", told(c.x), b, c.want)
		}
	}
	b := mustEncode(t, item.Item{Kind: item.Ratchet, Count: 1, Label: strings.Repeat("z", 255)})
	want := append([]byte{3, 0, 1, 0, 0, 0, 255, 0}, bytes.Repeat([]byte("z"), 255)...)
	if !slices.Equal(b, want) {
		t.Errorf("a label of 255 bytes: %d", b)
	}
}

// P12.1: of each item that may be, its bytes as the chapter lists them.
func TestEncodeOfGoodItems(t *testing.T) {
	for _, x := range goodItems() {
		if b := mustEncode(t, x); !slices.Equal(b, bytesOf(x)) {
			t.Errorf("%s: %d", told(x), b)
		}
	}
	r := dice()
	for n := range 256 {
		x := item.Item{Kind: item.Squeeze, Type: item.Field, Count: 1 + r.Intn(api.MaxCount), Label: anyLabel(r, n)}
		if b := mustEncode(t, x); !slices.Equal(b, bytesOf(x)) {
			t.Errorf("%s: %d", told(x), b)
		}
	}
}

// P12.1, K3: of an item that may not be Check's error, and no bytes.
func TestEncodeOfAnyItem(t *testing.T) {
	for _, x := range anyItems() {
		b, err := item.Encode(x)
		if err != wrong(x) {
			t.Errorf("%s: error %d, not %d", told(x), err, wrong(x))
		}
		if err != api.OK && len(b) != 0 {
			t.Errorf("%s: bytes beside error %d", told(x), err)
		}
	}
}

// K5, of P12.1: what is answered is new memory each time.
func TestEncodeAnswersNewMemory(t *testing.T) {
	x := item.Item{Kind: item.Absorb, Type: item.Bytes, Count: 5, Label: "ab"}
	first := mustEncode(t, x)
	for i := range first {
		first[i] = 9
	}
	if b := mustEncode(t, x); !slices.Equal(b, bytesOf(x)) || x.Label != "ab" {
		t.Errorf("%d of %s", b, told(x))
	}
}
