package tag_test

import (
	"crypto/sha3"
	"encoding/binary"
	"math/big"
	"math/rand"
	"slices"
	"strings"
	"testing"

	"avouch/api"
	"avouch/item"
	"avouch/tag"
)

// dice always fall alike, so that a test that fails once fails again.
func dice() *rand.Rand { return rand.New(rand.NewSource(14)) }

// both are the backends that there are, by the numbers that DOC.md gives them.
var both = []int{1, 2}

// long has room for any label.
var long = strings.Repeat("abcdefg", 100)

// typesOf has the types of each kind, by the numbers that chapter 12 gives them.
var typesOf = map[int][]int{1: {1, 2, 3, 4}, 2: {1, 3}, 3: {0}}

// laid lays out the bytes that a tag is the digest of.
func laid(backend byte, l []item.Item) []byte {
	b := append([]byte("avouch/transcript/1"), backend)
	for _, x := range l {
		b = append(b, byte(x.Kind), byte(x.Type))
		b = binary.LittleEndian.AppendUint32(b, uint32(x.Count))
		b = binary.LittleEndian.AppendUint16(b, uint16(len(x.Label)))
		b = append(b, x.Label...)
	}
	return b
}

// wantedTag is the chapter's tag, by the library's digest.
func wantedTag(backend byte, l []item.Item) [32]byte { return sha3.Sum256(laid(backend, l)) }

// tagged looks that both backends have the tags that they should have.
func tagged(t *testing.T, l []item.Item) {
	t.Helper()
	for _, backend := range both {
		if x, at, err := tag.Tag(backend, l); x != wantedTag(byte(backend), l) || at != -1 || err != api.OK {
			t.Errorf("backend %d, %d items: tag %x, place %d, error %d", backend, len(l), x, at, err)
		}
	}
}

// notTagged looks that there is no tag of either backend, by the place and the error, without an answer beside it.
func notTagged(t *testing.T, l []item.Item, place int, want api.Errno) {
	t.Helper()
	for _, backend := range both {
		if x, at, err := tag.Tag(backend, l); x != [32]byte{} || at != place || err != want {
			t.Errorf("backend %d, %d items: tag %x, place %d, error %d, not %d and %d", backend, len(l), x, at, err, place, want)
		}
	}
}

// tagOf gives the tag of a pattern that is one.
func tagOf(t *testing.T, backend int, l []item.Item) [32]byte {
	t.Helper()
	x, at, err := tag.Tag(backend, l)
	if at != -1 || err != api.OK {
		t.Fatalf("backend %d, %d items: place %d, error %d", backend, len(l), at, err)
	}
	return x
}

// wrongItem is an item that may not be, and why.
type wrongItem struct {
	x    item.Item
	want api.Errno
}

// wrongItems are items that may not be, of each error; where several apply, the first one counts.
func wrongItems() []wrongItem {
	return []wrongItem{
		{item.Item{}, api.ErrKind},
		{item.Item{Kind: 4, Type: 1, Count: 1, Label: "a"}, api.ErrKind},
		{item.Item{Kind: 257, Type: 9, Count: 0, Label: long}, api.ErrKind},
		{item.Item{Kind: 1, Type: 0, Count: 1}, api.ErrType},
		{item.Item{Kind: 2, Type: 2, Count: 1, Label: "a"}, api.ErrType},
		{item.Item{Kind: 3, Type: 1, Count: 2, Label: long[:256]}, api.ErrType},
		{item.Item{Kind: 1, Type: 1, Count: 0}, api.ErrCount},
		{item.Item{Kind: 2, Type: 3, Count: 1<<20 + 1, Label: "a"}, api.ErrCount},
		{item.Item{Kind: 1, Type: 4, Count: 1<<32 + 1}, api.ErrCount},
		{item.Item{Kind: 3, Type: 0, Count: 2, Label: long[:256]}, api.ErrCount},
		{item.Item{Kind: 1, Type: 1, Count: 1, Label: long[:256]}, api.ErrLabel},
		{item.Item{Kind: 3, Type: 0, Count: 1, Label: long}, api.ErrLabel},
	}
}

// anyItem is an item that may be, whatever the dice say.
func anyItem(r *rand.Rand) item.Item {
	x := item.Item{Kind: 1 + r.Intn(3), Count: 1}
	x.Type = typesOf[x.Kind][r.Intn(len(typesOf[x.Kind]))]
	if x.Kind != 3 {
		x.Count += r.Intn(1 << r.Intn(21))
	}
	label := make([]byte, r.Intn(1<<r.Intn(9)))
	r.Read(label)
	x.Label = string(label)
	return x
}

// anyItems are so many items that may be.
func anyItems(r *rand.Rand, n int) []item.Item {
	var out []item.Item
	for range n {
		out = append(out, anyItem(r))
	}
	return out
}

// with gives a list whose item at a place is another one.
func with(l []item.Item, place int, x item.Item) []item.Item {
	out := slices.Clone(l)
	out[place] = x
	return out
}

// prime is p as chapter 2 writes it, read by the library's own numbers.
func prime() *big.Int {
	p, _ := new(big.Int).SetString("30644e72e131a029"+"b85045b68181585d"+"2833e84879b97091"+"43e1f593f0000001", 16)
	return p
}

// about gives p + n as 32 bytes, the lowest first.
func about(n int64) [32]byte { return low(new(big.Int).Add(prime(), big.NewInt(n))) }

// low gives a number's 32 bytes, the lowest first.
func low(a *big.Int) [32]byte {
	var out [32]byte
	a.FillBytes(out[:])
	slices.Reverse(out[:])
	return out
}

// number gives the number of bytes, the lowest first.
func number(b [32]byte) *big.Int {
	slices.Reverse(b[:])
	return new(big.Int).SetBytes(b[:])
}

// allTags are bytes about the edges, with a single byte at each place, and as the dice say.
func allTags() [][32]byte {
	twice := new(big.Int).Lsh(prime(), 1)
	out := [][32]byte{{}, {1}, about(-1), about(0), about(1), low(twice), low(twice.Sub(twice, big.NewInt(1)))}
	var top [32]byte
	for i := range top {
		var one, most [32]byte
		one[i], most[i], top[i] = 1, 255, 255
		out = append(out, one, most)
	}
	out = append(out, top)
	r := dice()
	for range 100 {
		var b [32]byte
		r.Read(b[:])
		out = append(out, b)
	}
	return out
}
