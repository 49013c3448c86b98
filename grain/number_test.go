package grain_test

import (
	"encoding/hex"
	"math"
	"math/rand"
	"slices"
	"testing"

	"avouch/api"
	"avouch/grain"
)

// asked are what Number may be asked for, with how many bits each one counts as.
func asked() map[int]int {
	out := map[int]int{
		math.MinInt: 0, math.MinInt + 1: 0, math.MinInt32: 0, -65: 0, -64: 0, -2: 0, -1: 0,
		65: 64, 66: 64, 127: 64, 128: 64, 129: 64, 254: 64, 256: 64, 1000: 64, 1<<32 + 1: 64, math.MaxInt - 1: 64, math.MaxInt: 64,
	}
	for bits := range 65 {
		out[bits] = bits
	}
	return out
}

// draw lets a source and its model give anything, by the dice.
func draw(t *testing.T, r *rand.Rand, s *grain.Source, g *register) {
	t.Helper()
	switch r.Intn(4) {
	case 0:
		expectBit(t, "drawn", s.Bit(), g.bit())
	case 1:
		bits := r.Intn(65)
		expectNumber(t, bits, s.Number(bits), g.number(bits))
	case 2:
		for _, bits := range []int{-r.Intn(100), 64 + r.Intn(100)} {
			expectNumber(t, bits, s.Number(bits), g.number(asWanted(bits)))
		}
	default:
		expectElement(t, "drawn", s.Element(), g.element())
	}
}

// asWanted gives how many bits Number's argument counts as.
func asWanted(bits int) int { return min(max(bits, 0), 64) }

// P8.2: each length by itself, and what comes behind it.
func TestNumber(t *testing.T) {
	r := dice()
	for ask, bits := range asked() {
		for range 4 {
			n := anyNumbers(r)
			s, g := source(t, n), model(n)
			expectNumber(t, ask, s.Number(ask), g.number(bits))
			expectAlike(t, ask, s, g)
			expectNumber(t, ask, s.Number(ask), g.number(bits))
			expectNumber(t, ask, s.Number(ask), g.number(bits))
			expectAlike(t, ask, s, g)
		}
	}
}

// P8.2: the highest bit first.
func TestNumberByItsBits(t *testing.T) {
	for bits := range 65 {
		one, other := source(t, poseidon), source(t, poseidon)
		for range 20 {
			n := one.Number(bits)
			for i := range bits {
				expectBit(t, bits, n>>(bits-1-i)&1 == 1, other.Bit())
			}
			if bits < 64 && n>>bits != 0 {
				t.Fatalf("%d bits: the number is %d", bits, n)
			}
		}
	}
}

// P8.2: cut otherwise, the same bits.
func TestNumberInPieces(t *testing.T) {
	whole, cut := source(t, poseidon), source(t, poseidon)
	for size := range 65 {
		w := whole.Number(64)
		high := cut.Number(size)
		low := cut.Number(64 - size)
		if got := high<<(64-size) | low; got != w {
			t.Fatalf("%d and %d bits: %x, wanted %x", size, 64-size, got, w)
		}
	}
}

// P8.2: a number of no bits draws none.
func TestNumberOfNoBits(t *testing.T) {
	s, g := source(t, poseidon), model(poseidon)
	for ask, bits := range asked() {
		if bits > 0 {
			continue
		}
		for range 3 {
			if n := s.Number(ask); n != 0 {
				t.Errorf("of %d bits: %d", ask, n)
			}
		}
		expectBit(t, ask, s.Bit(), g.bit())
	}
	expectElement(t, "behind them", s.Element(), g.element())
}

// P8.2: more than 64 draw no more than 64.
func TestNumberOfTooManyBits(t *testing.T) {
	for ask, bits := range asked() {
		if ask <= 64 {
			continue
		}
		s, g := source(t, poseidon), model(poseidon)
		for range 5 {
			expectNumber(t, ask, s.Number(ask), g.number(bits))
		}
		expectBit(t, ask, s.Bit(), g.bit())
	}
}

// P8.2: elements that come at once, and such whose numbers weren't below p for once, and for several times.
func TestElement(t *testing.T) {
	r := dice()
	times := map[int]int{}
	for _, n := range someNumbers(r, 100) {
		s, g := source(t, n), model(n)
		for range 12 {
			expectElement(t, n, s.Element(), g.element())
			times[g.refused]++
		}
		expectAlike(t, n, s, g)
	}
	for refused := range 4 {
		if times[refused] == 0 {
			t.Errorf("no element behind %d numbers of p or more: too few to test it", refused)
		}
	}
}

// P8.2: the first element of each of many sources, so that one that refuses none of its numbers, or all from its first
// one on, is told from one that doesn't.
func TestFirstElements(t *testing.T) {
	r := dice()
	for range 300 {
		n := anyNumbers(r)
		s, g := source(t, n), model(n)
		expectElement(t, n, s.Element(), g.element())
		expectBit(t, n, s.Bit(), g.bit())
	}
}

// P8.2: constants of Poseidon's that are known from elsewhere, the highest byte first.
func TestKnownElements(t *testing.T) {
	s := source(t, poseidon)
	for i, want := range []string{
		"0ee9a592ba9a9518d05986d656f40c2114c4993c11bb29938d21d47304cd8e6e",
		"00f1445235f2148c5986587169fc1bcd887b08d4d00868df5696fff40956e864",
		"08dff3487e8ac99e1f29a058d0fa80b930c728730b7ab36ce879f3890ecf73f5",
		"2f27be690fdaee46c3ce28f7532b13c856c35342c84bda6e20966310fadc01d0",
	} {
		b := s.Element().Bytes()
		slices.Reverse(b[:])
		if got := hex.EncodeToString(b[:]); got != want {
			t.Errorf("element %d: %s, wanted %s", i, got, want)
		}
	}
}

// P8.2: all that a permutation takes.
func TestManyElements(t *testing.T) {
	s, g := source(t, poseidon), model(poseidon)
	seen := map[[api.FieldBytes]byte]bool{}
	for i := range 195 {
		e := s.Element()
		expectElement(t, i, e, g.element())
		if seen[e.Bytes()] {
			t.Errorf("element %d was given ahead", i)
		}
		seen[e.Bytes()] = true
	}
	expectAlike(t, "behind them", s, g)
}

// P8.1, P8.2: each call goes on where the one ahead of it stopped.
func TestInAnyOrder(t *testing.T) {
	r := dice()
	for _, n := range someNumbers(r, 20) {
		s, g := source(t, n), model(n)
		for range 40 {
			draw(t, r, s, g)
		}
	}
}

// K6, of P8.2
func TestSameCallsSameAnswers(t *testing.T) {
	for _, n := range someNumbers(dice(), 20) {
		one, other := source(t, n), source(t, n)
		other.Number(0)
		for bits := range 66 {
			if a, b := one.Number(bits), other.Number(bits); a != b {
				t.Fatalf("%v: numbers of %d bits are %d and %d", n, bits, a, b)
			}
			if a, b := one.Element(), other.Element(); !a.Equal(b) {
				t.Fatalf("%v: elements behind %d bits are unlike", n, bits)
			}
			if one.Bit() != other.Bit() {
				t.Fatalf("%v: bits behind %d bits are unlike", n, bits)
			}
		}
	}
}
