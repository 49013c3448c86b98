package wide_test

import (
	"math/big"
	"testing"

	"avouch/wide"
)

// P4.2
func TestSmallNumbers(t *testing.T) {
	for _, c := range bothRings() {
		six, seven := wide.Number{6}, wide.Number{7}
		for _, k := range []struct {
			what string
			got  wide.Number
			want wide.Number
		}{
			{"Add", c.ring.Add(six, seven), wide.Number{13}},
			{"Sub of a smaller one", c.ring.Sub(seven, six), wide.Number{1}},
			{"Sub of the same", c.ring.Sub(six, six), wide.Number{}},
			{"Mul", c.ring.Mul(six, seven), wide.Number{42}},
			{"Exp", c.ring.Exp(six, seven), wide.Number{279936}},
			{"Exp the other way", c.ring.Exp(seven, six), wide.Number{117649}},
			{"Add, carried into the next word", c.ring.Add(wide.Number{top}, six), wide.Number{5, 1}},
			{"Sub, borrowed from the next word", c.ring.Sub(wide.Number{0, 1}, six), wide.Number{top - 5}},
			{"Mul of words", c.ring.Mul(wide.Number{0, 3}, wide.Number{0, 0, 5}), wide.Number{0, 0, 0, 15}},
			{"Exp of a word", c.ring.Exp(wide.Number{0, 1}, wide.Number{11}), wide.Number{11: 1}},
		} {
			if k.got != k.want {
				t.Errorf("%s: %s: %x", c.name, k.what, k.got)
			}
		}
		expect(t, c.name+": Sub of a greater one", c.ring.Sub(six, seven), above(c.size, -1))
	}
}

// P4.2
func TestAroundModulus(t *testing.T) {
	for _, c := range bothRings() {
		zero, one, two := wide.Number{}, wide.Number{1}, wide.Number{2}
		size, last, next := numberOf(c.size), numberOf(above(c.size, -1)), numberOf(above(c.size, 1))
		for _, k := range []struct {
			what string
			got  wide.Number
			want wide.Number
		}{
			{"the last one and 1", c.ring.Add(last, one), zero},
			{"the last one and 2", c.ring.Add(last, two), one},
			{"the modulus and 0", c.ring.Add(size, zero), zero},
			{"0 and the modulus", c.ring.Add(zero, size), zero},
			{"the modulus twice", c.ring.Add(size, size), zero},
			{"0 less 1", c.ring.Sub(zero, one), last},
			{"0 less the modulus", c.ring.Sub(zero, size), zero},
			{"the modulus less 1", c.ring.Sub(size, one), last},
			{"1 less the next one", c.ring.Sub(one, next), zero},
			{"the last one by itself", c.ring.Mul(last, last), one},
			{"the last one by 1", c.ring.Mul(last, one), last},
			{"the modulus by the last one", c.ring.Mul(size, last), zero},
			{"the next one by 2", c.ring.Mul(next, two), two},
			{"the next one, squared", c.ring.Exp(next, two), one},
			{"the last one, squared", c.ring.Exp(last, two), one},
		} {
			if k.got != k.want {
				t.Errorf("%s: %s: %x", c.name, k.what, k.got)
			}
		}
	}
}

// P4.2: each edge as either argument.
func TestEdgesAgainstBig(t *testing.T) {
	for _, c := range bothRings() {
		for _, a := range edgeNumbers() {
			for _, b := range edgeNumbers() {
				expectReckoned(t, c, a, b)
				if t.Failed() {
					return
				}
			}
		}
	}
}

// P4.2
func TestDrawnNumbersAgainstBig(t *testing.T) {
	r := dice()
	for _, c := range bothRings() {
		for range 300 {
			expectReckoned(t, c, anyNumber(r), anyNumber(r))
			if t.Failed() {
				return
			}
		}
	}
}

func expectReckoned(t *testing.T, c ringCase, a, b *big.Int) {
	t.Helper()
	m, n := numberOf(a), numberOf(b)
	expect(t, c.name+": Add", c.ring.Add(m, n), c.rest(new(big.Int).Add(a, b)))
	expect(t, c.name+": Sub", c.ring.Sub(m, n), c.rest(new(big.Int).Sub(a, b)))
	expect(t, c.name+": Mul", c.ring.Mul(m, n), c.rest(new(big.Int).Mul(a, b)))
	expect(t, c.name+": Exp", c.ring.Exp(m, n), new(big.Int).Exp(a, b, c.size))
}

// P4.2
func TestPowersOfZeroAndOne(t *testing.T) {
	for _, c := range bothRings() {
		for _, a := range edgeNumbers() {
			expect(t, c.name+": the power 0", c.ring.Exp(numberOf(a), wide.Number{}), big.NewInt(1))
			expect(t, c.name+": the power 1", c.ring.Exp(numberOf(a), wide.Number{1}), c.rest(a))
		}
	}
}

// P4.2: a power is a number of its own, not its rest modulo what is reckoned with.
func TestPowersAboveModulus(t *testing.T) {
	for _, c := range bothRings() {
		three := wide.Number{3}
		expect(t, c.name+": the modulus less 1", c.ring.Exp(three, numberOf(above(c.size, -1))), big.NewInt(1))
		expect(t, c.name+": the modulus", c.ring.Exp(three, numberOf(c.size)), big.NewInt(3))
		expect(t, c.name+": the modulus and 1", c.ring.Exp(three, numberOf(above(c.size, 1))), big.NewInt(9))
		expect(t, c.name+": the greatest one", c.ring.Exp(three, numberOf(greatest())),
			new(big.Int).Exp(big.NewInt(3), greatest(), c.size))
		expect(t, c.name+": of 0", c.ring.Exp(wide.Number{}, numberOf(greatest())), big.NewInt(0))
		expect(t, c.name+": of the modulus", c.ring.Exp(numberOf(c.size), numberOf(greatest())), big.NewInt(0))
	}
}

// The chapter's example.
func TestExample(t *testing.T) {
	if got := wide.Group().Exp(wide.Number{2}, wide.Exponents().Size()); got != (wide.Number{1}) {
		t.Errorf("2 to the power of q: %x", got)
	}
}

// K5 and K6: what was reckoned ahead changes neither the numbers nor what a ring answers.
func TestRingsStayAsTheyAre(t *testing.T) {
	for _, c := range bothRings() {
		a, b := numberOf(greatest()), numberOf(c.size)
		for range 3 {
			expectReckoned(t, c, greatest(), c.size)
			c.ring.Sub(b, a)
			c.ring.Exp(b, a)
			expect(t, c.name+": Size", c.ring.Size(), c.size)
		}
		if a != numberOf(greatest()) || b != numberOf(c.size) {
			t.Errorf("%s: the numbers became %x and %x", c.name, a, b)
		}
	}
}
