package item_test

import (
	"encoding/binary"
	"fmt"
	"math"
	"math/rand"
	"slices"
	"strings"
	"testing"

	"avouch/api"
	"avouch/item"
)

// dice always fall alike, so that a test that fails once fails again.
func dice() *rand.Rand { return rand.New(rand.NewSource(12)) }

// typesOf has the types of each kind, by the numbers that the chapter gives them.
func typesOf(kind int) []int {
	switch kind {
	case 1:
		return []int{1, 2, 3, 4}
	case 2:
		return []int{1, 3}
	case 3:
		return []int{0}
	}
	return nil
}

// wrongs gives all errors that apply to an item, the one that the chapter names first at the beginning.
func wrongs(x item.Item) []api.Errno {
	most := 1048576
	if x.Kind == 3 {
		most = 1
	}
	var out []api.Errno
	if typesOf(x.Kind) == nil {
		out = append(out, api.ErrKind)
	} else if !slices.Contains(typesOf(x.Kind), x.Type) {
		out = append(out, api.ErrType)
	}
	if x.Count < 1 || x.Count > most {
		out = append(out, api.ErrCount)
	}
	if len(x.Label) > 255 {
		out = append(out, api.ErrLabel)
	}
	return out
}

// wrong gives the error that the chapter names first.
func wrong(x item.Item) api.Errno { return append(wrongs(x), api.OK)[0] }

// bytesOf lays out an item's bytes, also of one that may not be, as far as its numbers have room there.
func bytesOf(x item.Item) []byte {
	b := []byte{byte(x.Kind), byte(x.Type)}
	b = binary.LittleEndian.AppendUint32(b, uint32(x.Count))
	b = binary.LittleEndian.AppendUint16(b, uint16(len(x.Label)))
	return append(b, x.Label...)
}

// anyLabel gives a label of any bytes.
func anyLabel(r *rand.Rand, n int) string {
	b := make([]byte, n)
	r.Read(b)
	return string(b)
}

// labels are some that may be, at the edges and of any bytes.
func labels() []string {
	all := make([]byte, 255)
	for i := range all {
		all[i] = byte(255 - i)
	}
	return []string{"", "a", "\x00", "\xff", "\x00\x7f\x80\xff\n", "two words", "Größe", strings.Repeat("x", 254), strings.Repeat("x", 255), string(all)}
}

// goodItems are items that may be: of each kind with each of its types, at counts of one to three bytes and at labels' edges.
func goodItems() []item.Item {
	var out []item.Item
	for kind := 1; kind <= 3; kind++ {
		counts := []int{1, 2, 127, 128, 255, 256, 258, 65535, 65536, 66051, 1048575, 1048576}
		if kind == 3 {
			counts = []int{1}
		}
		for _, typ := range typesOf(kind) {
			for _, count := range counts {
				for _, label := range labels() {
					out = append(out, item.Item{Kind: kind, Type: typ, Count: count, Label: label})
				}
			}
		}
	}
	return out
}

// anyItems are items that may be, and ones that may not: all that come of some kinds, types, counts and labels.
func anyItems() []item.Item {
	far := []int{math.MinInt, math.MinInt + 1, -1 << 32, -256, -255, -2, -1, 5, 6, 255, 256, 257, 258, 259, 1<<32 + 1, 1<<32 + 2, math.MaxInt}
	near := []int{0, 1, 2, 3, 4}
	counts := []int{math.MinInt, -1048576, -1, 0, 1, 2, 3, 256, 1048575, 1048576, 1048577, 1 << 31, 1<<32 - 1, 1 << 32, 1<<32 + 1, math.MaxInt}
	var out []item.Item
	for _, kind := range slices.Concat(near, far) {
		for _, typ := range slices.Concat(near, far) {
			for _, count := range counts {
				for _, size := range []int{0, 1, 255, 256, 257, 511, 512, 65536} {
					out = append(out, item.Item{Kind: kind, Type: typ, Count: count, Label: long[:size]})
				}
			}
		}
	}
	return out
}

// long is longer than any label whose length has room in two bytes.
var long = strings.Repeat("abcdefg", 10000)

func mustEncode(t *testing.T, x item.Item) []byte {
	t.Helper()
	b, err := item.Encode(x)
	if err != api.OK {
		t.Fatalf("%s: error %d", told(x), err)
	}
	return b
}

// told tells an item within a line.
func told(x item.Item) string {
	if len(x.Label) <= 16 {
		return fmt.Sprintf("{%d %d %d %q}", x.Kind, x.Type, x.Count, x.Label)
	}
	return fmt.Sprintf("{%d %d %d, a label of %d bytes}", x.Kind, x.Type, x.Count, len(x.Label))
}
