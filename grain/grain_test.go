package grain_test

import (
	"math"
	"slices"
	"testing"

	"avouch/api"
)

// The chapter's example.
func TestExample(t *testing.T) {
	for _, n := range someNumbers(dice(), 20) {
		one, other := source(t, n), source(t, n)
		for i := range 300 {
			if one.Bit() != other.Bit() {
				t.Fatalf("%v: the bits %d are unlike", n, i)
			}
		}
	}
}

// outside are what number i of a source may not be.
func outside(i int) []int {
	far := []int{math.MinInt, math.MinInt + 1, math.MinInt32, -4096, -1024, -254, -2, -1, 4096, 4097, 8191, 8192, 1 << 16, math.MaxInt32, math.MaxInt32 + 1, 1 << 32, 1<<32 + 3, 1 << 62, math.MaxInt - 1, math.MaxInt}
	if i < 2 {
		return append(far, 0)
	}
	return append(far, 1024, 1025, 2047, 2048, 4095)
}

// inside are what number i of a source may be: its ends, and some between.
func inside(i int) []int {
	if i < 2 {
		return []int{1, 2, 3, 254, 1023, 1024, 1025, 2047, 2048, 4094, 4095}
	}
	return []int{0, 1, 2, 8, 57, 255, 256, 511, 512, 1022, 1023}
}

func expectNone(t *testing.T, n numbers) {
	t.Helper()
	if s, err := ask(n); err != api.ErrArg || s != nil {
		t.Errorf("New of %v: error %d, source %v", n, err, s)
	}
}

// P8.1
func TestNewWithOneNumberOutside(t *testing.T) {
	r := dice()
	for i := range 4 {
		for _, wrong := range outside(i) {
			for _, n := range []numbers{poseidon, {1, 1, 0, 0}, {4095, 4095, 1023, 1023}, anyNumbers(r)} {
				n[i] = wrong
				expectNone(t, n)
			}
		}
	}
}

// P8.1
func TestNewWithSeveralNumbersOutside(t *testing.T) {
	r := dice()
	for which := 1; which < 16; which++ {
		for range 40 {
			n := anyNumbers(r)
			for i := range n {
				if which>>i&1 == 1 {
					n[i] = outside(i)[r.Intn(len(outside(i)))]
				}
			}
			expectNone(t, n)
		}
	}
	for _, n := range []numbers{{0, 0, -1, -1}, {4096, 4096, 1024, 1024}, {0, 4096, -1, 1024}, {4096, 0, 1024, -1}} {
		expectNone(t, n)
	}
}

// P8.1
func TestNewWithinTheBounds(t *testing.T) {
	r := dice()
	for i := range 4 {
		for _, right := range inside(i) {
			for _, n := range []numbers{poseidon, {1, 1, 0, 0}, {4095, 4095, 1023, 1023}, anyNumbers(r)} {
				n[i] = right
				expectAlike(t, n, source(t, n), model(n))
			}
		}
	}
}

// P8.1: no number of a place is taken for another one.
func TestNewWithAllBitsOfEachNumber(t *testing.T) {
	for bits := 1; bits < 4096; bits += 7 {
		n := numbers{bits, 4096 - bits, bits % 1024, (bits*5 + 3) % 1024}
		s, g := source(t, n), model(n)
		for range 20 {
			expectBit(t, n, s.Bit(), g.bit())
		}
	}
}

// P8.1: the register's first bits, and the 160 turns.
func TestBit(t *testing.T) {
	most := 0
	for _, n := range someNumbers(dice(), 200) {
		s, g := source(t, n), model(n)
		for range 500 {
			expectBit(t, n, s.Bit(), g.bit())
			most = max(most, g.passed)
		}
	}
	if most < 10 {
		t.Errorf("no more than %d pairs in a row were passed over: too few to test it", most)
	}
}

// P8.1: far on, too.
func TestManyBits(t *testing.T) {
	s, g := source(t, poseidon), model(poseidon)
	for i := range 60000 {
		expectBit(t, i, s.Bit(), g.bit())
	}
}

// P8.1; K6
func TestNewAgain(t *testing.T) {
	for _, n := range someNumbers(dice(), 20) {
		s := source(t, n)
		for range 70 {
			s.Bit()
		}
		s.Element()
		// What a source gave is not seen in one that is made behind it.
		expectAlike(t, n, source(t, n), model(n))
		expectNone(t, numbers{0, n[1], n[2], n[3]})
		expectAlike(t, n, source(t, n), model(n))
	}
}

// P8.1: every number tells, and each of its bits.
func TestOtherNumbersOtherBits(t *testing.T) {
	seen := map[[4]uint64]numbers{}
	all := someNumbers(dice(), 300)
	slices.SortFunc(all, func(a, b numbers) int { return slices.Compare(a[:], b[:]) })
	for _, n := range slices.Compact(all) {
		s := source(t, n)
		var first [4]uint64
		for i := range first {
			first[i] = s.Number(64)
		}
		if m, ok := seen[first]; ok {
			t.Errorf("%v and %v give the same", m, n)
		}
		seen[first] = n
	}
}

// P8.1: numbers aren't exchanged.
func TestExchangedNumbers(t *testing.T) {
	a, b := source(t, numbers{3, 254, 8, 57}), source(t, poseidon)
	c, d := source(t, numbers{254, 3, 57, 8}), source(t, poseidon)
	if a.Number(64) == b.Number(64) || c.Number(64) == d.Number(64) {
		t.Error("two numbers exchanged, and the same bits")
	}
}

// K6, of P8.1: each by itself.
func TestTwoSourcesByTurns(t *testing.T) {
	r := dice()
	for range 20 {
		n, m := anyNumbers(r), anyNumbers(r)
		if r.Intn(3) == 0 {
			m = n
		}
		one, other := source(t, n), source(t, m)
		ones, others := model(n), model(m)
		for range 60 {
			for range r.Intn(4) {
				draw(t, r, one, ones)
			}
			for range r.Intn(4) {
				draw(t, r, other, others)
			}
		}
	}
}

// K5, of P8.1
func TestSourcesAreNew(t *testing.T) {
	a, b := source(t, poseidon), source(t, poseidon)
	if a == b {
		t.Error("one source twice")
	}
	for range 100 {
		a.Bit()
	}
	expectAlike(t, "the other one", b, model(poseidon))
}
