package wide_test

import (
	"bytes"
	"math/big"
	"slices"
	"testing"

	"avouch/api"
	"avouch/wide"
)

// P4.1
func TestSize(t *testing.T) {
	for _, c := range bothRings() {
		expect(t, c.name, c.ring.Size(), c.size)
		if !c.size.ProbablyPrime(20) {
			t.Errorf("%s: the modulus is no prime", c.name)
		}
	}
	p := wide.Group().Size()
	if p[0] != top || p[1] != 0xF44C42E9A63A3620 || p[7] != 0x020BBEA63B139B22 || p[11] != top {
		t.Errorf("P: %x", p)
	}
	q := wide.Exponents().Size()
	if q[0] != top>>1 || q[1] != 0x7A262174D31D1B10 || q[11] != top>>1 {
		t.Errorf("q: %x", q)
	}
}

// P4.1
func TestReadBelowModulus(t *testing.T) {
	r := dice()
	for _, c := range bothRings() {
		numbers := edgeNumbers()
		for range 300 {
			numbers = append(numbers, anyNumber(r))
		}
		for _, a := range numbers {
			if a.Cmp(c.size) >= 0 {
				expectRefused(t, c, bytesOf(a, 96), api.ErrCanon)
			} else {
				expectRead(t, c, a)
			}
		}
	}
}

// P4.1: a number is told from the modulus by its highest word that differs, in each of the words.
func TestReadAroundModulus(t *testing.T) {
	for _, c := range bothRings() {
		expectRead(t, c, big.NewInt(0))
		expectRead(t, c, above(c.size, -1))
		expectRefused(t, c, bytesOf(c.size, 96), api.ErrCanon)
		expectRefused(t, c, bytesOf(above(c.size, 1), 96), api.ErrCanon)
		expectRefused(t, c, bytesOf(greatest(), 96), api.ErrCanon)
		for bits := range 767 {
			expectRead(t, c, new(big.Int).Sub(c.size, powerOfTwo(bits)))
			more := new(big.Int).Add(c.size, powerOfTwo(bits))
			if more.Cmp(greatest()) <= 0 {
				expectRefused(t, c, bytesOf(more, 96), api.ErrCanon)
			}
		}
	}
}

// P4.1: what is a number modulo P needn't be one modulo q.
func TestReadBetweenModuli(t *testing.T) {
	group, exponents := bothRings()[0], bothRings()[1]
	for _, a := range []*big.Int{halfPrime(), above(halfPrime(), 1), above(prime(), -1)} {
		expectRead(t, group, a)
		expectRefused(t, exponents, bytesOf(a, 96), api.ErrCanon)
	}
}

// P4.1; K2, as ErrArg is named ahead of ErrCanon.
func TestReadOfOtherLengths(t *testing.T) {
	for _, c := range bothRings() {
		expectRefused(t, c, nil, api.ErrArg)
		for _, size := range []int{0, 1, 8, 32, 88, 94, 95, 97, 98, 104, 192, 1000} {
			expectRefused(t, c, make([]byte, size), api.ErrArg)
			expectRefused(t, c, bytes.Repeat([]byte{255}, size), api.ErrArg)
			expectRefused(t, c, bytesOf(big.NewInt(5), size), api.ErrArg)
			expectRefused(t, c, bytesOf(c.size, size), api.ErrArg)
		}
	}
}

func expectRead(t *testing.T, c ringCase, a *big.Int) {
	t.Helper()
	n, err := c.ring.Read(bytesOf(a, 96))
	if err != api.OK {
		t.Errorf("%s: Read of %x: error %d", c.name, a, err)
	}
	expect(t, c.name+": Read", n, a)
}

// K3, of P4.1
func expectRefused(t *testing.T, c ringCase, b []byte, want api.Errno) {
	t.Helper()
	n, err := c.ring.Read(b)
	if err != want {
		t.Errorf("%s: Read(%x): error %d, wanted %d", c.name, b, err, want)
	}
	if n != (wide.Number{}) {
		t.Errorf("%s: Read(%x): %x beside the error", c.name, b, n)
	}
}

// P4.1
func TestWriteKnown(t *testing.T) {
	if got := wide.Write(wide.Number{}); got != [96]byte{} {
		t.Errorf("Write of 0: %v", got)
	}
	want := [96]byte{0: 2, 1: 1, 8: 3, 95: 128}
	if got := wide.Write(wide.Number{258, 3, 11: 1 << 63}); got != want {
		t.Errorf("Write: %v", got)
	}
	var n wide.Number
	for i := range want {
		want[i] = byte(i + 1)
		n[i/8] |= uint64(i+1) << (8 * (i % 8))
	}
	if got := wide.Write(n); got != want {
		t.Errorf("Write of unlike bytes: %v", got)
	}
}

// P4.1: also of numbers that are in no ring.
func TestWriteOfAnyNumber(t *testing.T) {
	r := dice()
	numbers := edgeNumbers()
	for range 300 {
		numbers = append(numbers, anyNumber(r))
	}
	for _, a := range numbers {
		if got := wide.Write(numberOf(a)); !bytes.Equal(got[:], bytesOf(a, 96)) {
			t.Errorf("Write of %x: %x", a, got)
		}
	}
}

// P4.1
func TestReduceOfAnyLength(t *testing.T) {
	r := dice()
	for _, c := range bothRings() {
		expect(t, "Reduce of none", c.ring.Reduce(nil), big.NewInt(0))
		for size := range 300 {
			drawn := make([]byte, size)
			r.Read(drawn)
			for _, b := range [][]byte{make([]byte, size), bytes.Repeat([]byte{255}, size), drawn} {
				expect(t, c.name+": Reduce", c.ring.Reduce(b), c.rest(bigOfBytes(b)))
			}
		}
		long := make([]byte, 20001)
		r.Read(long)
		expect(t, c.name+": Reduce of a long one", c.ring.Reduce(long), c.rest(bigOfBytes(long)))
	}
}

// P4.1
func TestReduceOfEdges(t *testing.T) {
	for _, c := range bothRings() {
		for _, a := range edgeNumbers() {
			expect(t, c.name+": Reduce", c.ring.Reduce(bytesOf(a, 96)), c.rest(a))
		}
	}
}

// P4.1
func TestReduceAroundMultiples(t *testing.T) {
	for _, c := range bothRings() {
		for _, factor := range []*big.Int{big.NewInt(1), big.NewInt(2), big.NewInt(5), powerOfTwo(64), c.size, powerOfTwo(900)} {
			multiple := new(big.Int).Mul(c.size, factor)
			expect(t, c.name+": a multiple", c.ring.Reduce(bytesOf(multiple, 220)), big.NewInt(0))
			expect(t, c.name+": one more", c.ring.Reduce(bytesOf(above(multiple, 1), 220)), big.NewInt(1))
			expect(t, c.name+": one less", c.ring.Reduce(bytesOf(above(multiple, -1), 220)), above(c.size, -1))
		}
	}
}

// P4.1: bytes that are 0 at the end change nothing.
func TestReduceWithZerosBehind(t *testing.T) {
	for _, c := range bothRings() {
		for _, size := range []int{1, 8, 9, 95, 96, 97, 104, 500} {
			expect(t, c.name+": Reduce", c.ring.Reduce(bytesOf(big.NewInt(200), size)), big.NewInt(200))
		}
	}
}

// K5, of P4.1
func TestBytesAreNeitherChangedNorKept(t *testing.T) {
	for _, c := range bothRings() {
		for _, a := range []*big.Int{powerOfTwo(700), c.size, greatest()} {
			b := append(bytesOf(a, 96), 1, 2, 3)
			before := slices.Clone(b)
			read, err := c.ring.Read(b[:96])
			reduced := c.ring.Reduce(b[:96])
			c.ring.Read(b)
			c.ring.Reduce(b)
			if !bytes.Equal(b, before) {
				t.Errorf("%s: the bytes were changed: %x", c.name, b)
			}
			clear(b)
			if err == api.OK {
				expect(t, c.name+": Read", read, a)
			}
			expect(t, c.name+": Reduce", reduced, c.rest(a))
		}
	}
}
