package wide_test

import (
	"math/big"
	"math/rand"
	"slices"
	"testing"

	"avouch/wide"
)

const top = 1<<64 - 1

// dice always fall alike, so that a test that fails once fails again.
func dice() *rand.Rand { return rand.New(rand.NewSource(4)) }

// prime is P as the chapter writes it, read by the library's own numbers.
func prime() *big.Int {
	p, _ := new(big.Int).SetString(""+
		"FFFFFFFF"+"FFFFFFFF"+"C90FDAA2"+"2168C234"+"C4C6628B"+"80DC1CD1"+
		"29024E08"+"8A67CC74"+"020BBEA6"+"3B139B22"+"514A0879"+"8E3404DD"+
		"EF9519B3"+"CD3A431B"+"302B0A6D"+"F25F1437"+"4FE1356D"+"6D51C245"+
		"E485B576"+"625E7EC6"+"F44C42E9"+"A63A3620"+"FFFFFFFF"+"FFFFFFFF", 16)
	return p
}

// halfPrime is q, as the chapter says what it is.
func halfPrime() *big.Int { return new(big.Int).Div(above(prime(), -1), big.NewInt(2)) }

// ringCase is a ring, with what its modulus must be.
type ringCase struct {
	name string
	ring *wide.Ring
	size *big.Int
}

func bothRings() []ringCase {
	return []ringCase{
		{"Group", wide.Group(), prime()},
		{"Exponents", wide.Exponents(), halfPrime()},
	}
}

// rest gives a number's rest modulo the ring's modulus.
func (c ringCase) rest(a *big.Int) *big.Int { return new(big.Int).Mod(a, c.size) }

func powerOfTwo(bits int) *big.Int { return new(big.Int).Lsh(big.NewInt(1), uint(bits)) }

// above gives a + n, n of either sign.
func above(a *big.Int, n int64) *big.Int { return new(big.Int).Add(a, big.NewInt(n)) }

// greatest is the greatest number of 12 words, and of 96 bytes.
func greatest() *big.Int { return above(powerOfTwo(768), -1) }

// bytesOf gives a number's lowest size bytes, the lowest first.
func bytesOf(a *big.Int, size int) []byte {
	low := new(big.Int).Mod(a, powerOfTwo(8*size))
	out := low.FillBytes(make([]byte, size))
	slices.Reverse(out)
	return out
}

// bigOfBytes reads bytes, the lowest first.
func bigOfBytes(b []byte) *big.Int {
	b = slices.Clone(b)
	slices.Reverse(b)
	return new(big.Int).SetBytes(b)
}

// numberOf gives the number of a's lowest 768 bits.
func numberOf(a *big.Int) wide.Number {
	var n wide.Number
	left, mask := new(big.Int).Set(a), new(big.Int).SetUint64(top)
	for i := range n {
		n[i] = new(big.Int).And(left, mask).Uint64()
		left.Rsh(left, 64)
	}
	return n
}

// edgeNumbers are the edges of both moduli, the numbers' own, and where words begin.
func edgeNumbers() []*big.Int {
	out := []*big.Int{big.NewInt(0), big.NewInt(1), big.NewInt(2), big.NewInt(3), above(greatest(), -1), greatest()}
	for _, c := range bothRings() {
		out = append(out, above(c.size, -2), above(c.size, -1), c.size, above(c.size, 1), above(c.size, 2))
	}
	for _, bits := range []int{63, 64, 128, 384, 704, 767} {
		out = append(out, above(powerOfTwo(bits), -1), powerOfTwo(bits))
	}
	return out
}

// anyNumber is one that the dice tell: of any number of bits, so that short ones come as well.
func anyNumber(r *rand.Rand) *big.Int {
	return new(big.Int).Rand(r, powerOfTwo(1+r.Intn(768)))
}

func expect(t *testing.T, what string, got wide.Number, want *big.Int) {
	t.Helper()
	if got != numberOf(want) {
		t.Errorf("%s: %x, wanted %x", what, got, numberOf(want))
	}
}
