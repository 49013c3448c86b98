package limb_test

import (
	"bytes"
	"math/big"
	"slices"
	"testing"

	"avouch/limb"
)

// P1.1
func TestAddKnown(t *testing.T) {
	cases := []struct {
		name  string
		a, b  []uint64
		sum   []uint64
		carry uint64
	}{
		{"of nothing", nil, []uint64{}, nil, 0},
		{"of one that is empty", nil, []uint64{7, 0}, []uint64{7, 0}, 0},
		{"small", []uint64{2}, []uint64{3}, []uint64{5}, 0},
		{"carried out", []uint64{top}, []uint64{1}, []uint64{0}, 1},
		{"carried into a word of 0", []uint64{top, 0}, []uint64{1}, []uint64{0, 1}, 0},
		{"carried through all words", []uint64{top, top, top}, []uint64{1}, []uint64{0, 0, 0}, 1},
		{"the shorter one first", []uint64{1}, []uint64{top, top, 5}, []uint64{0, 0, 6}, 0},
		{"greatest ones", []uint64{top, top}, []uint64{top, top}, []uint64{top - 1, top}, 1},
		{"words of 0 at the end", []uint64{1, 0, 0}, []uint64{2}, []uint64{3, 0, 0}, 0},
	}
	for _, c := range cases {
		sum, carry := limb.Add(c.a, c.b)
		expectWords(t, c.name, sum, c.sum)
		if carry != c.carry {
			t.Errorf("%s: carried %d", c.name, carry)
		}
	}
}

// P1.1
func TestSubKnown(t *testing.T) {
	cases := []struct {
		name       string
		a, b       []uint64
		difference []uint64
		borrow     uint64
	}{
		{"of nothing", nil, nil, nil, 0},
		{"from nothing", nil, []uint64{1}, []uint64{top}, 1},
		{"nothing from one", []uint64{4, 0}, nil, []uint64{4, 0}, 0},
		{"small", []uint64{5}, []uint64{3}, []uint64{2}, 0},
		{"the same", []uint64{5, 6}, []uint64{5, 6}, []uint64{0, 0}, 0},
		{"borrowed through all words", []uint64{0, 0, 0}, []uint64{1}, []uint64{top, top, top}, 1},
		{"borrowed within", []uint64{0, 0, 1}, []uint64{1}, []uint64{top, top, 0}, 0},
		{"the shorter one first", []uint64{1}, []uint64{2, 0}, []uint64{top, top}, 1},
		{"words of 0 at the end", []uint64{3}, []uint64{2, 0, 0}, []uint64{1, 0, 0}, 0},
	}
	for _, c := range cases {
		difference, borrow := limb.Sub(c.a, c.b)
		expectWords(t, c.name, difference, c.difference)
		if borrow != c.borrow {
			t.Errorf("%s: borrowed %d", c.name, borrow)
		}
	}
}

// P1.1
func TestCmpKnown(t *testing.T) {
	cases := []struct {
		a, b []uint64
		want int
	}{
		{nil, nil, 0},
		{nil, []uint64{0, 0}, 0},
		{[]uint64{0, 0}, []uint64{}, 0},
		{[]uint64{1, 0, 0}, []uint64{1}, 0},
		{nil, []uint64{0, 1}, -1},
		{[]uint64{5}, nil, 1},
		{[]uint64{top}, []uint64{0, 1}, -1},
		{[]uint64{0, 1}, []uint64{top}, 1},
		{[]uint64{1, 2}, []uint64{2, 1}, 1},
		{[]uint64{1, 2}, []uint64{2, 2}, -1},
		{[]uint64{top}, []uint64{1}, 1},
	}
	for _, c := range cases {
		if got := limb.Cmp(c.a, c.b); got != c.want {
			t.Errorf("Cmp(%v, %v): %d, wanted %d", c.a, c.b, got, c.want)
		}
	}
}

// P1.1
func TestMulKnown(t *testing.T) {
	cases := []struct {
		name    string
		a, b    []uint64
		product []uint64
	}{
		{"of nothing", nil, nil, nil},
		{"by nothing", []uint64{1, 2}, nil, []uint64{0, 0}},
		{"nothing by one", nil, []uint64{1, 2, 3}, []uint64{0, 0, 0}},
		{"small", []uint64{6}, []uint64{7}, []uint64{42, 0}},
		{"by 0", []uint64{0}, []uint64{top}, []uint64{0, 0}},
		{"words of 0 at the end", []uint64{2, 0}, []uint64{3, 0}, []uint64{6, 0, 0, 0}},
		{"greatest words", []uint64{top}, []uint64{top}, []uint64{1, top - 1}},
		{"greatest lists", []uint64{top, top}, []uint64{top, top}, []uint64{1, 0, top - 1, top}},
		{"unlike lengths", []uint64{top}, []uint64{top, 1}, []uint64{1, top - 2, 1}},
	}
	for _, c := range cases {
		expectWords(t, c.name, limb.Mul(c.a, c.b), c.product)
	}
}

// P1.1
func TestBitsKnown(t *testing.T) {
	cases := []struct {
		a    []uint64
		want int
	}{
		{nil, 0},
		{[]uint64{0, 0}, 0},
		{[]uint64{1}, 1},
		{[]uint64{255}, 8},
		{[]uint64{256}, 9},
		{[]uint64{top}, 64},
		{[]uint64{0, 1}, 65},
		{[]uint64{0, 8, 0}, 68},
		{[]uint64{top, top, top}, 192},
	}
	for _, c := range cases {
		if got := limb.Bits(c.a); got != c.want {
			t.Errorf("Bits(%v): %d, wanted %d", c.a, got, c.want)
		}
	}
}

// P1.2
func TestBytesKnown(t *testing.T) {
	cases := []struct {
		a    []uint64
		want []byte
	}{
		{nil, nil},
		{[]uint64{0}, make([]byte, 8)},
		{[]uint64{0x0807060504030201}, []byte{1, 2, 3, 4, 5, 6, 7, 8}},
		{[]uint64{258, 1 << 63}, []byte{2, 1, 0, 0, 0, 0, 0, 0, 0, 0, 0, 0, 0, 0, 0, 128}},
		{[]uint64{5, 0}, []byte{5, 0, 0, 0, 0, 0, 0, 0, 0, 0, 0, 0, 0, 0, 0, 0}},
	}
	for _, c := range cases {
		if got := limb.Bytes(c.a); !bytes.Equal(got, c.want) {
			t.Errorf("Bytes(%v): %v, wanted %v", c.a, got, c.want)
		}
	}
}

// P1.2
func TestWordsKnown(t *testing.T) {
	cases := []struct {
		b    []byte
		want []uint64
	}{
		{nil, nil},
		{[]byte{}, nil},
		{[]byte{0}, []uint64{0}},
		{[]byte{1, 2}, []uint64{513}},
		{[]byte{1, 2, 3, 4, 5, 6, 7}, []uint64{0x07060504030201}},
		{[]byte{1, 2, 3, 4, 5, 6, 7, 255}, []uint64{0xff07060504030201}},
		{[]byte{1, 2, 0, 0, 0, 0, 0, 0, 3}, []uint64{513, 3}},
		{make([]byte, 17), []uint64{0, 0, 0}},
	}
	for _, c := range cases {
		expectWords(t, "Words", limb.Words(c.b), c.want)
	}
}

// P1.1
func TestNumbersAgainstBig(t *testing.T) {
	r := dice()
	for range 4000 {
		a, b := anyNumber(r, r.Intn(9)), anyNumber(r, r.Intn(9))
		x, y := toBig(a), toBig(b)
		n := max(len(a), len(b))

		sum, carry := limb.Add(a, b)
		wanted := new(big.Int).Add(x, y)
		expectWords(t, "Add", append(sum, carry), fromBig(wanted, n+1))

		difference, borrow := limb.Sub(a, b)
		wanted = new(big.Int).Sub(x, y)
		expectWords(t, "Sub", difference, fromBig(wanted.Mod(wanted, powerOfTwo(64*n)), n))
		if (borrow == 1) != (x.Cmp(y) < 0) || borrow > 1 {
			t.Errorf("Sub(%v, %v): borrowed %d", a, b, borrow)
		}

		if got := limb.Cmp(a, b); got != x.Cmp(y) {
			t.Errorf("Cmp(%v, %v): %d", a, b, got)
		}
		expectWords(t, "Mul", limb.Mul(a, b), fromBig(new(big.Int).Mul(x, y), len(a)+len(b)))
		if got := limb.Bits(a); got != x.BitLen() {
			t.Errorf("Bits(%v): %d", a, got)
		}
		if t.Failed() {
			return
		}
	}
}

// P1.2
func TestBytesAndWordsAgainstBig(t *testing.T) {
	r := dice()
	for range 500 {
		b := make([]byte, r.Intn(40))
		r.Read(b)
		high := slices.Clone(b)
		slices.Reverse(high)
		size := (len(b) + 7) / 8
		words := limb.Words(b)
		expectWords(t, "Words", words, fromBig(new(big.Int).SetBytes(high), size))

		again := limb.Bytes(words)
		if len(again) != 8*size || !bytes.Equal(again[:len(b)], b) || slices.Max(append(again[len(b):], 0)) != 0 {
			t.Errorf("Bytes of Words of %v: %v", b, again)
		}
	}
}

// K5, of P1.1 and P1.2
func TestNumbersShareNothing(t *testing.T) {
	a, b := []uint64{1, 2, 3}, []uint64{4, 5}
	sum, _ := limb.Add(a, nil)
	difference, _ := limb.Sub(a, nil)
	for _, out := range [][]uint64{sum, difference, limb.Mul(a, b), limb.Mul(a, []uint64{1})} {
		clear(out[:cap(out)])
	}
	limb.Cmp(a, b)
	limb.Bits(a)
	clear(limb.Bytes(a))
	expectWords(t, "the first argument", a, []uint64{1, 2, 3})
	expectWords(t, "the second argument", b, []uint64{4, 5})

	raw := []byte{1, 2, 3, 4, 5, 6, 7, 8}
	clear(limb.Words(raw))
	if !bytes.Equal(raw, []byte{1, 2, 3, 4, 5, 6, 7, 8}) {
		t.Errorf("the argument of Words became %v", raw)
	}
}
