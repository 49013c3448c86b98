package group_test

import (
	"bytes"
	"math/big"
	"testing"

	"avouch/api"
	"avouch/field"
	"avouch/group"
)

// P5.2
func TestReadScalarBelowModulus(t *testing.T) {
	q := halfPrime()
	for _, a := range []*big.Int{small(0), small(1), small(2), powerOfTwo(64), powerOfTwo(766), above(q, -2), above(q, -1)} {
		expect(t, "ReadScalar", mustReadScalar(t, a), a)
	}
	for _, a := range []*big.Int{q, above(q, 1), powerOfTwo(767), above(prime(), -1), prime(), above(prime(), 1), greatest()} {
		expectScalarRefused(t, bytesOf(a, 96), api.ErrCanon)
	}
	r := dice()
	for range 300 {
		a := anyNumber(r)
		if a.Cmp(q) < 0 {
			expect(t, "ReadScalar", mustReadScalar(t, a), a)
		} else {
			expectScalarRefused(t, bytesOf(a, 96), api.ErrCanon)
		}
	}
}

// P5.2; K2, as ErrArg is named ahead of ErrCanon.
func TestReadScalarOfOtherLengths(t *testing.T) {
	expectScalarRefused(t, nil, api.ErrArg)
	for _, size := range []int{0, 1, 32, 94, 95, 97, 98, 192, 1000} {
		expectScalarRefused(t, make([]byte, size), api.ErrArg)
		expectScalarRefused(t, bytes.Repeat([]byte{255}, size), api.ErrArg)
		expectScalarRefused(t, bytesOf(small(4), size), api.ErrArg)
		expectScalarRefused(t, bytesOf(halfPrime(), size), api.ErrArg)
	}
}

// K3, of P5.2
func expectScalarRefused(t *testing.T, b []byte, want api.Errno) {
	t.Helper()
	s, err := group.ReadScalar(b)
	if err != want {
		t.Errorf("ReadScalar(%x): error %d, wanted %d", b, err, want)
	}
	if s != (group.Scalar{}) {
		t.Errorf("ReadScalar(%x): %x beside the error", b, s.Bytes())
	}
}

// P5.2
func TestOfField(t *testing.T) {
	prime := field.Prime()
	p := new(big.Int)
	for i := range prime {
		p.Lsh(p, 8).Or(p, small(int64(prime[len(prime)-1-i])))
	}
	numbers := []*big.Int{small(0), small(1), small(258), powerOfTwo(64), powerOfTwo(253), above(p, -2), above(p, -1)}
	r := dice()
	for range 100 {
		numbers = append(numbers, new(big.Int).Rand(r, p))
	}
	for _, a := range numbers {
		e, err := field.FromBytes(bytesOf(a, 32))
		if err != api.OK {
			t.Fatalf("%x is no field element: error %d", a, err)
		}
		expect(t, "OfField", group.OfField(e), a)
	}
	expect(t, "OfField of the zero Element", group.OfField(field.Element{}), small(0))
}

// P5.2
func TestOfNumber(t *testing.T) {
	q := halfPrime()
	numbers := []*big.Int{
		small(0), small(1), above(q, -1), q, above(q, 1), above(prime(), -1), prime(), above(prime(), 1),
		powerOfTwo(64), powerOfTwo(767), above(greatest(), -1), greatest(),
	}
	r := dice()
	for range 300 {
		numbers = append(numbers, anyNumber(r))
	}
	for _, a := range numbers {
		expect(t, "OfNumber", group.OfNumber(numberOf(a)), modulo(a, q))
	}
	// P is 2 q + 1.
	expect(t, "OfNumber of q", group.OfNumber(numberOf(q)), small(0))
	expect(t, "OfNumber of P", group.OfNumber(numberOf(prime())), small(1))
}

// P5.2
func TestScalarsOfSmallNumbers(t *testing.T) {
	six, seven := mustReadScalar(t, small(6)), mustReadScalar(t, small(7))
	expect(t, "Add", six.Add(seven), small(13))
	expect(t, "Sub of a smaller one", seven.Sub(six), small(1))
	expect(t, "Sub of the same", six.Sub(six), small(0))
	expect(t, "Sub of a greater one", six.Sub(seven), above(halfPrime(), -1))
	expect(t, "Mul", six.Mul(seven), small(42))
}

// P5.2: each edge as either argument.
func TestScalarsAtEdges(t *testing.T) {
	q := halfPrime()
	edges := []*big.Int{small(0), small(1), small(2), powerOfTwo(64), powerOfTwo(766), above(q, -2), above(q, -1)}
	for _, a := range edges {
		for _, b := range edges {
			expectReckoned(t, a, b)
		}
	}
}

// P5.2
func TestScalarsOfDrawnNumbers(t *testing.T) {
	r := dice()
	for range 300 {
		expectReckoned(t, modulo(anyNumber(r), halfPrime()), modulo(anyNumber(r), halfPrime()))
	}
}

func expectReckoned(t *testing.T, a, b *big.Int) {
	t.Helper()
	q := halfPrime()
	s, u := mustReadScalar(t, a), mustReadScalar(t, b)
	expect(t, "Add", s.Add(u), modulo(new(big.Int).Add(a, b), q))
	expect(t, "Sub", s.Sub(u), modulo(new(big.Int).Sub(a, b), q))
	expect(t, "Mul", s.Mul(u), modulo(new(big.Int).Mul(a, b), q))
}

// K1, of P5.2
func TestZeroScalar(t *testing.T) {
	zero, three := group.Scalar{}, mustReadScalar(t, small(3))
	expect(t, "Bytes", zero, small(0))
	expect(t, "0 and 3", zero.Add(three), small(3))
	expect(t, "3 and 0", three.Add(zero), small(3))
	expect(t, "0 less 3", zero.Sub(three), above(halfPrime(), -3))
	expect(t, "3 less 0", three.Sub(zero), small(3))
	expect(t, "0 by 3", zero.Mul(three), small(0))
	expect(t, "3 by 0", three.Mul(zero), small(0))
}
