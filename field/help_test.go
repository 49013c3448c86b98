package field_test

import (
	"math/big"
	"math/rand"
	"slices"
	"testing"

	"avouch/api"
	"avouch/field"
	"avouch/limb"
)

const top = 1<<64 - 1

// dice always fall alike, so that a test that fails once fails again.
func dice() *rand.Rand { return rand.New(rand.NewSource(2)) }

// prime is p as the chapter writes it, read by the library's own numbers.
func prime() *big.Int {
	p, _ := new(big.Int).SetString("30644e72e131a029"+"b85045b68181585d"+"2833e84879b97091"+"43e1f593f0000001", 16)
	return p
}

func powerOfTwo(bits int) *big.Int { return new(big.Int).Lsh(big.NewInt(1), uint(bits)) }

// above gives a + n, n of either sign.
func above(a *big.Int, n int64) *big.Int { return new(big.Int).Add(a, big.NewInt(n)) }

// rest gives a number's rest modulo p.
func rest(a *big.Int) *big.Int { return new(big.Int).Mod(a, prime()) }

// bytesOf gives a number's lowest size bytes, the lowest first.
func bytesOf(a *big.Int, size int) []byte {
	low := new(big.Int).Mod(a, powerOfTwo(8*size))
	out := low.FillBytes(make([]byte, size))
	slices.Reverse(out)
	return out
}

// numberOf reads bytes, the lowest first.
func numberOf(b []byte) *big.Int {
	b = slices.Clone(b)
	slices.Reverse(b)
	return new(big.Int).SetBytes(b)
}

// wordsOf gives a number's words: of up to 256 bits.
func wordsOf(a *big.Int) []uint64 { return limb.Words(bytesOf(a, 32)) }

func elementOf(t *testing.T, a *big.Int) field.Element {
	t.Helper()
	e, err := field.FromBytes(bytesOf(a, 32))
	if err != api.OK {
		t.Fatalf("FromBytes of %v: error %d", a, err)
	}
	return e
}

func expect(t *testing.T, what string, got field.Element, want *big.Int) {
	t.Helper()
	b := got.Bytes()
	if n := numberOf(b[:]); n.Cmp(want) != 0 {
		t.Errorf("%s: %v, wanted %v", what, n, want)
	}
}

// edgeNumbers are below p: its ends, its middle, where words begin, and each of these divided by 2^256 as well, so that
// the edges are met whether or not elements are kept as multiples of it.
func edgeNumbers() []*big.Int {
	p := prime()
	half := new(big.Int).Rsh(p, 1)
	out := []*big.Int{
		big.NewInt(0), big.NewInt(1), big.NewInt(2), big.NewInt(3), big.NewInt(5),
		above(p, -1), above(p, -2), half, above(half, 1),
		rest(powerOfTwo(256)), rest(powerOfTwo(512)),
	}
	for _, bits := range []int{32, 63, 64, 127, 128, 191, 192, 253} {
		out = append(out, above(powerOfTwo(bits), -1), powerOfTwo(bits))
	}
	scale := new(big.Int).ModInverse(powerOfTwo(256), p)
	for _, a := range slices.Clone(out) {
		out = append(out, rest(new(big.Int).Mul(a, scale)))
	}
	return out
}

// someNumbers are the edges, and more that the dice tell.
func someNumbers(r *rand.Rand, more int) []*big.Int {
	out := edgeNumbers()
	for range more {
		out = append(out, new(big.Int).Rand(r, prime()))
	}
	return out
}
