package group_test

import (
	"bytes"
	"math/big"
	"slices"
	"testing"

	"avouch/api"
	"avouch/group"
)

// P5.1
func TestGeneratorAndOne(t *testing.T) {
	expect(t, "Generator", group.Generator(), small(4))
	expect(t, "One", group.One(), small(1))
}

// The chapter's example.
func TestExample(t *testing.T) {
	expect(t, "2", mustRead(t, small(2)), small(2))
	expectRefused(t, bytesOf(above(prime(), -1), 96), api.ErrCanon)
}

// P5.1
func TestReadOfSmallNumbers(t *testing.T) {
	for n := range int64(200) {
		expectReadAsItMust(t, small(n))
	}
	for _, n := range []int64{1, 2, 4, 9} {
		expect(t, "Read", mustRead(t, small(n)), small(n))
	}
	// 7 is the least number above 0 that is no square.
	expectRefused(t, bytesOf(small(0), 96), api.ErrCanon)
	expectRefused(t, bytesOf(small(7), 96), api.ErrCanon)
}

// P5.1
func TestReadAroundModuli(t *testing.T) {
	for n := range int64(20) {
		expectReadAsItMust(t, above(prime(), -1-n))
		expectReadAsItMust(t, above(halfPrime(), n-10))
	}
	for n := range int64(20) {
		expectRefused(t, bytesOf(above(prime(), n), 96), api.ErrCanon)
	}
	expectRefused(t, bytesOf(greatest(), 96), api.ErrCanon)
}

// P5.1: what stands for an element, but with P added, is no element's number.
func TestReadIsOfOneFormAlone(t *testing.T) {
	for _, n := range []int64{1, 2, 4} {
		expectRefused(t, bytesOf(above(prime(), n), 96), api.ErrCanon)
	}
}

// P5.1
func TestReadOfDrawnNumbers(t *testing.T) {
	r := dice()
	for range 60 {
		expectReadAsItMust(t, anyNumber(r))
		e := anyElement(r)
		expect(t, "Read of a square", mustRead(t, e), e)
		// P - 1 is no square, so of e and P - e one alone is.
		expectRefused(t, bytesOf(new(big.Int).Sub(prime(), e), 96), api.ErrCanon)
	}
}

// P5.1; K2, as ErrArg is named ahead of ErrCanon.
func TestReadOfOtherLengths(t *testing.T) {
	expectRefused(t, nil, api.ErrArg)
	for _, size := range []int{0, 1, 32, 94, 95, 97, 98, 192, 1000} {
		expectRefused(t, make([]byte, size), api.ErrArg)
		expectRefused(t, bytes.Repeat([]byte{255}, size), api.ErrArg)
		expectRefused(t, bytesOf(small(4), size), api.ErrArg)
		expectRefused(t, bytesOf(above(prime(), -1), size), api.ErrArg)
	}
}

func expectReadAsItMust(t *testing.T, a *big.Int) {
	t.Helper()
	if isElement(a) {
		expect(t, "Read", mustRead(t, a), a)
	} else {
		expectRefused(t, bytesOf(a, 96), api.ErrCanon)
	}
}

// K3, of P5.1
func expectRefused(t *testing.T, b []byte, want api.Errno) {
	t.Helper()
	e, err := group.Read(b)
	if err != want {
		t.Errorf("Read(%x): error %d, wanted %d", b, err, want)
	}
	if e != (group.Element{}) {
		t.Errorf("Read(%x): %x beside the error", b, e.Bytes())
	}
}

// P5.1
func TestEqual(t *testing.T) {
	elements := []group.Element{
		group.One(), group.Generator(), mustRead(t, small(2)), mustRead(t, above(prime(), -7)),
		mustRead(t, powerOfTwo(64)), mustRead(t, powerOfTwo(704)),
	}
	for i, e := range elements {
		for k, f := range elements {
			if got := e.Equal(f); got != (i == k) {
				t.Errorf("Equal of %d and %d: %t", i, k, got)
			}
		}
	}
}

// P5.1: however an element came about.
func TestEqualOfWhatWasReckoned(t *testing.T) {
	two := mustRead(t, small(2))
	if !two.Mul(two).Equal(group.Generator()) || !group.Generator().Equal(two.Mul(two)) {
		t.Error("2 times 2 isn't 4")
	}
	if !mustRead(t, small(4)).Equal(group.Generator()) || !mustRead(t, small(1)).Equal(group.One()) {
		t.Error("what was read isn't what was answered")
	}
	if !two.Exp(group.Scalar{}).Equal(group.One()) {
		t.Error("the power 0 isn't One")
	}
}

// P5.1
func TestMul(t *testing.T) {
	expect(t, "4 by 4", group.Generator().Mul(group.Generator()), small(16))
	expect(t, "1 by 1", group.One().Mul(group.One()), small(1))
	r := dice()
	for range 40 {
		a, b := anyElement(r), anyElement(r)
		e, f := mustRead(t, a), mustRead(t, b)
		expect(t, "Mul", e.Mul(f), modulo(new(big.Int).Mul(a, b), prime()))
		expect(t, "Mul with One", e.Mul(group.One()), a)
		expect(t, "One by it", group.One().Mul(e), a)
		expect(t, "Mul with its inverse", e.Mul(mustRead(t, new(big.Int).ModInverse(a, prime()))), small(1))
	}
}

// P5.1: the greatest elements, whose products are the longest.
func TestMulOfGreatElements(t *testing.T) {
	// Neither P - 1 nor 7 is a square, so P - 7 is one.
	a := above(prime(), -7)
	e := mustRead(t, a)
	expect(t, "P - 7, squared", e.Mul(e), small(49))
	expect(t, "P - 7, by 2", e.Mul(mustRead(t, small(2))), above(prime(), -14))
}

// P5.1
func TestExpAtEdges(t *testing.T) {
	q := halfPrime()
	r := dice()
	for _, a := range []*big.Int{small(1), small(2), small(4), above(prime(), -7), anyElement(r), anyElement(r)} {
		e := mustRead(t, a)
		expect(t, "the power 0", e.Exp(mustReadScalar(t, small(0))), small(1))
		expect(t, "the zero Scalar's power", e.Exp(group.Scalar{}), small(1))
		expect(t, "the power 1", e.Exp(mustReadScalar(t, small(1))), a)
		expect(t, "the power q - 1", e.Exp(mustReadScalar(t, above(q, -1))), new(big.Int).ModInverse(a, prime()))
		if got := e.Exp(mustReadScalar(t, above(q, -1))).Mul(e); !got.Equal(group.One()) {
			t.Errorf("the power q - 1 by the element: %x", got.Bytes())
		}
	}
}

// P5.1
func TestExpOfDrawn(t *testing.T) {
	expect(t, "4 to the power of 5", group.Generator().Exp(mustReadScalar(t, small(5))), small(1024))
	r := dice()
	for range 40 {
		a, b := anyElement(r), modulo(anyNumber(r), halfPrime())
		e, s := mustRead(t, a), mustReadScalar(t, b)
		expect(t, "Exp", e.Exp(s), new(big.Int).Exp(a, b, prime()))
		expect(t, "One's power", group.One().Exp(s), small(1))
	}
}

// P5.1 and P5.2: exponents are reckoned modulo q as elements are multiplied.
func TestExponentsGoWithElements(t *testing.T) {
	r := dice()
	g := group.Generator()
	for range 10 {
		s := mustReadScalar(t, modulo(anyNumber(r), halfPrime()))
		u := mustReadScalar(t, modulo(anyNumber(r), halfPrime()))
		if !g.Exp(s).Mul(g.Exp(u)).Equal(g.Exp(s.Add(u))) {
			t.Error("a sum's power is no product of powers")
		}
		if !g.Exp(s).Exp(u).Equal(g.Exp(s.Mul(u))) {
			t.Error("a product's power is no power of a power")
		}
		if !g.Exp(s.Sub(u)).Mul(g.Exp(u)).Equal(g.Exp(s)) {
			t.Error("a difference's power is no quotient of powers")
		}
	}
}

// P5.1: what is reckoned is an element again, which Read takes.
func TestAnswersAreElements(t *testing.T) {
	r := dice()
	for range 10 {
		e := mustRead(t, anyElement(r))
		for _, f := range []group.Element{e.Mul(e), e.Exp(group.OfNumber(numberOf(anyNumber(r))))} {
			b := f.Bytes()
			if back, err := group.Read(b[:]); err != api.OK || !back.Equal(f) {
				t.Errorf("Read of %x: error %d", b, err)
			}
		}
	}
}

// K5, of P5.1 and P5.2
func TestBytesAreNeitherChangedNorKept(t *testing.T) {
	for _, a := range []*big.Int{small(0), small(2), small(7), powerOfTwo(700), halfPrime(), prime(), greatest()} {
		b := append(bytesOf(a, 96), 1, 2, 3)
		before := slices.Clone(b)
		e, err := group.Read(b[:96])
		s, errScalar := group.ReadScalar(b[:96])
		group.Read(b)
		group.ReadScalar(b)
		if !bytes.Equal(b, before) {
			t.Errorf("the bytes were changed: %x", b)
		}
		clear(b)
		if err == api.OK {
			expect(t, "Read", e, a)
		}
		if errScalar == api.OK {
			expect(t, "ReadScalar", s, a)
		}
	}
}

// K5 and K6: what was reckoned ahead changes neither the elements nor what is answered.
func TestElementsStayAsTheyAre(t *testing.T) {
	e, s := mustRead(t, small(9)), mustReadScalar(t, small(3))
	for range 3 {
		expect(t, "Mul", e.Mul(group.Generator()), small(36))
		expect(t, "Exp", e.Exp(s), small(729))
		expect(t, "Add", s.Add(s), small(6))
		expect(t, "the element", e, small(9))
		expect(t, "the exponent", s, small(3))
		b, c := e.Bytes(), s.Bytes()
		b[0], c[0] = 7, 7
	}
	expect(t, "Generator", group.Generator(), small(4))
	expect(t, "One", group.One(), small(1))
}
