package pattern_test

import (
	"encoding/binary"
	"fmt"
	"math/rand"
	"slices"
	"strings"
	"testing"

	"avouch/api"
	"avouch/item"
	"avouch/pattern"
)

// dice always fall alike, so that a test that fails once fails again.
func dice() *rand.Rand { return rand.New(rand.NewSource(13)) }

// typesOf has the types of each kind, by the numbers that chapter 12 gives them.
var typesOf = map[int][]int{1: {1, 2, 3, 4}, 2: {1, 3}, 3: {0}}

// bytesOf lays out items' bytes, also of those that may not be, as far as their numbers have room there.
func bytesOf(l ...item.Item) []byte {
	b := []byte{}
	for _, x := range l {
		b = append(b, byte(x.Kind), byte(x.Type))
		b = binary.LittleEndian.AppendUint32(b, uint32(x.Count))
		b = binary.LittleEndian.AppendUint16(b, uint16(len(x.Label)))
		b = append(b, x.Label...)
	}
	return b
}

// wrong gives what chapter 12 says is wrong with an item.
func wrong(x item.Item) api.Errno {
	most := 1048576
	if x.Kind == 3 {
		most = 1
	}
	switch types, there := typesOf[x.Kind]; {
	case !there:
		return api.ErrKind
	case !slices.Contains(types, x.Type):
		return api.ErrType
	case x.Count < 1 || x.Count > most:
		return api.ErrCount
	case len(x.Label) > 255:
		return api.ErrLabel
	}
	return api.OK
}

// wrongItem is an item that may not be, and why.
type wrongItem struct {
	x    item.Item
	want api.Errno
}

// wrongItems are items that may not be, of each error, whose numbers have room in their bytes.
func wrongItems() []wrongItem {
	return []wrongItem{
		{item.Item{}, api.ErrKind},
		{item.Item{Kind: 4, Type: 1, Count: 1, Label: "a"}, api.ErrKind},
		{item.Item{Kind: 255, Type: 255, Count: 0, Label: long[:256]}, api.ErrKind},
		{item.Item{Kind: 1, Type: 0, Count: 1}, api.ErrType},
		{item.Item{Kind: 2, Type: 2, Count: 1, Label: "a"}, api.ErrType},
		{item.Item{Kind: 2, Type: 4, Count: 0}, api.ErrType},
		{item.Item{Kind: 3, Type: 1, Count: 1, Label: long[:1000]}, api.ErrType},
		{item.Item{Kind: 1, Type: 5, Count: 1}, api.ErrType},
		{item.Item{Kind: 1, Type: 1, Count: 0}, api.ErrCount},
		{item.Item{Kind: 2, Type: 3, Count: 1<<20 + 1, Label: "a"}, api.ErrCount},
		{item.Item{Kind: 1, Type: 4, Count: 1<<32 - 1, Label: long[:257]}, api.ErrCount},
		{item.Item{Kind: 3, Type: 0, Count: 2}, api.ErrCount},
		{item.Item{Kind: 1, Type: 1, Count: 1, Label: long[:256]}, api.ErrLabel},
		{item.Item{Kind: 2, Type: 3, Count: 1 << 20, Label: long[:257]}, api.ErrLabel},
		{item.Item{Kind: 3, Type: 0, Count: 1, Label: long[:65535]}, api.ErrLabel},
	}
}

// goodItems are items that may be: of each kind and type, with labels of 0, 1 and 255 bytes, and counts of one to three bytes.
func goodItems() []item.Item {
	all := make([]byte, 255)
	for i := range all {
		all[i] = byte(255 - i)
	}
	var out []item.Item
	for kind := 1; kind <= 3; kind++ {
		counts := []int{1, 255, 256, 65535, 65536, 1048576}
		if kind == 3 {
			counts = counts[:1]
		}
		for _, typ := range typesOf[kind] {
			for _, count := range counts {
				for _, label := range []string{"", "a", "\x00", "\xff", long[:254], string(all)} {
					out = append(out, item.Item{Kind: kind, Type: typ, Count: count, Label: label})
				}
			}
		}
	}
	return out
}

// anyItem is an item that may be, whatever the dice say.
func anyItem(r *rand.Rand) item.Item {
	x := item.Item{Kind: 1 + r.Intn(3), Count: 1}
	x.Type = typesOf[x.Kind][r.Intn(len(typesOf[x.Kind]))]
	if x.Kind != 3 {
		x.Count += r.Intn(1 << r.Intn(21))
	}
	label := make([]byte, r.Intn(1<<r.Intn(9)))
	r.Read(label)
	x.Label = string(label)
	return x
}

// anyItems are so many items that may be.
func anyItems(r *rand.Rand, n int) []item.Item {
	var out []item.Item
	for range n {
		out = append(out, anyItem(r))
	}
	return out
}

// with gives a list whose item at a place is another one.
func with(l []item.Item, place int, x item.Item) []item.Item {
	out := slices.Clone(l)
	out[place] = x
	return out
}

// long is as long as a label whose length has room in two bytes.
var long = strings.Repeat("abcdefg", 10000)[:65535]

// parsed looks that bytes are a pattern of those items.
func parsed(t *testing.T, b []byte, want []item.Item) {
	t.Helper()
	if l, at, err := pattern.Parse(b); !slices.Equal(l, want) || at != -1 || err != api.OK {
		t.Errorf("%d items: %d items, place %d, error %d", len(want), len(l), at, err)
	}
}

// notParsed looks that bytes are no pattern, by the place and the error, without an answer beside it.
func notParsed(t *testing.T, b []byte, place int, want api.Errno) {
	t.Helper()
	if l, at, err := pattern.Parse(b); len(l) != 0 || at != place || err != want {
		t.Errorf("%d bytes: %d items, place %d, error %d, not %d and %d", len(b), len(l), at, err, place, want)
	}
}

// serialised looks that a list has those bytes.
func serialised(t *testing.T, l []item.Item, want []byte) {
	t.Helper()
	if b, at, err := pattern.Serialise(l); !slices.Equal(b, want) || at != -1 || err != api.OK {
		t.Errorf("%d items: %d bytes, not %d, place %d, error %d", len(l), len(b), len(want), at, err)
	}
}

// notSerialised looks that a list is no pattern, by the place and the error, without an answer beside it.
func notSerialised(t *testing.T, l []item.Item, place int, want api.Errno) {
	t.Helper()
	if b, at, err := pattern.Serialise(l); len(b) != 0 || at != place || err != want {
		t.Errorf("%d items: %d bytes, place %d, error %d, not %d and %d", len(l), len(b), at, err, place, want)
	}
}

// told tells an item within a line.
func told(x item.Item) string {
	return fmt.Sprintf("{%d %d %d, a label of %d bytes}", x.Kind, x.Type, x.Count, len(x.Label))
}
