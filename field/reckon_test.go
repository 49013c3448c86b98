package field_test

import (
	"math/big"
	"slices"
	"testing"

	"avouch/field"
	"avouch/limb"
)

// P2.2
func TestPairs(t *testing.T) {
	all := someNumbers(dice(), 60)
	for _, a := range all {
		e := elementOf(t, a)
		for _, b := range all {
			f := elementOf(t, b)
			expect(t, "Add", e.Add(f), rest(new(big.Int).Add(a, b)))
			expect(t, "Sub", e.Sub(f), rest(new(big.Int).Sub(a, b)))
			expect(t, "Mul", e.Mul(f), rest(new(big.Int).Mul(a, b)))
			if got := e.Equal(f); got != (a.Cmp(b) == 0) {
				t.Errorf("Equal of %v and %v: %v", a, b, got)
			}
		}
	}
}

// P2.2
func TestSingles(t *testing.T) {
	for _, a := range someNumbers(dice(), 200) {
		e := elementOf(t, a)
		expect(t, "Neg", e.Neg(), rest(new(big.Int).Neg(a)))
		expect(t, "Square", e.Square(), rest(new(big.Int).Mul(a, a)))
		if got := e.IsZero(); got != (a.Sign() == 0) {
			t.Errorf("IsZero of %v: %v", a, got)
		}
		if a.Sign() != 0 {
			expect(t, "Inverse", e.Inverse(), new(big.Int).ModInverse(a, prime()))
		}
	}
}

// P2.2
func TestZeroAlone(t *testing.T) {
	var zero field.Element
	expect(t, "Neg of 0", zero.Neg(), big.NewInt(0))
	expect(t, "Inverse of 0", zero.Inverse(), big.NewInt(0))
	expect(t, "Square of 0", zero.Square(), big.NewInt(0))
	if !zero.IsZero() || !zero.Neg().IsZero() || !zero.Inverse().IsZero() {
		t.Error("0 isn't told as 0")
	}
}

// P2.2: an element is the same one, however it was come to.
func TestEqualByAnyWay(t *testing.T) {
	one, p := field.FromUint64(1), field.Prime()
	last := elementOf(t, above(prime(), -1))
	if !last.Add(one).Equal(field.Element{}) || !last.Add(one).IsZero() || !field.FromWide(p[:]).IsZero() {
		t.Error("p isn't 0")
	}
	for _, a := range someNumbers(dice(), 50) {
		e := elementOf(t, a)
		same := []field.Element{
			field.FromWide(bytesOf(new(big.Int).Add(a, prime()), 40)),
			e.Add(one).Sub(one), e.Sub(last).Add(last), e.Neg().Neg(), e.Mul(last).Mul(last), e.Inverse().Inverse(),
			e.Exp([]uint64{1}), field.Sum(e),
		}
		for i, f := range same {
			if !e.Equal(f) || !f.Equal(e) {
				t.Errorf("%v, the way %d: not the same", a, i)
			}
		}
		if e.Equal(e.Add(one)) {
			t.Errorf("%v is told to be one more", a)
		}
	}
}

// P2.2, example 1
func TestInverseOfTwo(t *testing.T) {
	b := field.FromUint64(2).Inverse().Bytes()
	if got := numberOf(b[:8]).Uint64(); got != 0xa1f0fac9f8000001 {
		t.Errorf("the lowest eight bytes: %x", got)
	}
}

// P2.2
func TestExp(t *testing.T) {
	p := prime()
	powers := [][]uint64{
		{1}, {2}, {3}, {4}, {5}, {64}, {65}, {top}, {0, 1}, {1, 1}, {top, top}, {0, 0, 0, 0, 1}, {7, 0, 0, 9, 1 << 63},
		wordsOf(above(p, -2)), wordsOf(above(p, -1)), wordsOf(p), wordsOf(above(p, 1)), slices.Repeat([]uint64{top}, 9),
	}
	for _, a := range someNumbers(dice(), 10) {
		e := elementOf(t, a)
		for _, power := range powers {
			want := new(big.Int).Exp(a, numberOf(limb.Bytes(power)), p)
			expect(t, "Exp", e.Exp(power), want)
			expect(t, "Exp, with words of 0 behind", e.Exp(append(slices.Clone(power), 0, 0)), want)
		}
	}
}

// P2.2: of the power 0 there is 1, of 0 as well.
func TestExpOfZeroPower(t *testing.T) {
	for _, a := range edgeNumbers() {
		e := elementOf(t, a)
		for _, power := range [][]uint64{nil, {}, {0}, {0, 0, 0, 0, 0, 0}} {
			expect(t, "Exp", e.Exp(power), big.NewInt(1))
		}
	}
}

// P2.2
func TestSum(t *testing.T) {
	expect(t, "Sum of none", field.Sum(), big.NewInt(0))
	expect(t, "Sum of a nil list", field.Sum([]field.Element(nil)...), big.NewInt(0))
	expect(t, "Sum of three", field.Sum(field.FromUint64(1), field.FromUint64(2), field.FromUint64(top)), above(powerOfTwo(64), 2))
	var l []field.Element
	total := new(big.Int)
	for _, a := range someNumbers(dice(), 1000) {
		l = append(l, elementOf(t, a))
		total.Add(total, a)
		expect(t, "Sum of many", field.Sum(l...), rest(total))
	}
}

// K5, of P2.2
func TestListsAreNotChanged(t *testing.T) {
	power := []uint64{6, 0, 5, 0}
	field.FromUint64(3).Exp(power)
	if !slices.Equal(power, []uint64{6, 0, 5, 0}) {
		t.Errorf("Exp changed the power: %v", power)
	}
	l := []field.Element{field.FromUint64(1), field.FromUint64(2), field.FromUint64(3)}
	e := l[1]
	e.Add(l[2])
	e.Mul(l[2])
	field.Sum(l...)
	for i, e := range l {
		expect(t, "a list behind Sum", e, big.NewInt(int64(i+1)))
	}
}
