package group_test

import (
	"math/big"
	"math/rand"
	"slices"
	"testing"

	"avouch/api"
	"avouch/group"
	"avouch/wide"
)

const top = 1<<64 - 1

// dice always fall alike, so that a test that fails once fails again.
func dice() *rand.Rand { return rand.New(rand.NewSource(5)) }

// prime is P as chapter 4 writes it, read by the library's own numbers.
func prime() *big.Int {
	p, _ := new(big.Int).SetString(""+
		"FFFFFFFF"+"FFFFFFFF"+"C90FDAA2"+"2168C234"+"C4C6628B"+"80DC1CD1"+
		"29024E08"+"8A67CC74"+"020BBEA6"+"3B139B22"+"514A0879"+"8E3404DD"+
		"EF9519B3"+"CD3A431B"+"302B0A6D"+"F25F1437"+"4FE1356D"+"6D51C245"+
		"E485B576"+"625E7EC6"+"F44C42E9"+"A63A3620"+"FFFFFFFF"+"FFFFFFFF", 16)
	return p
}

// halfPrime is q.
func halfPrime() *big.Int { return new(big.Int).Div(above(prime(), -1), big.NewInt(2)) }

func small(n int64) *big.Int { return big.NewInt(n) }

func powerOfTwo(bits int) *big.Int { return new(big.Int).Lsh(big.NewInt(1), uint(bits)) }

// above gives a + n, n of either sign.
func above(a *big.Int, n int64) *big.Int { return new(big.Int).Add(a, big.NewInt(n)) }

// greatest is the greatest number of 12 words, and of 96 bytes.
func greatest() *big.Int { return above(powerOfTwo(768), -1) }

func modulo(a, m *big.Int) *big.Int { return new(big.Int).Mod(a, m) }

// isElement is told by Euler's symbol, not by a power: so the tests don't lean on what they test.
func isElement(a *big.Int) bool {
	return a.Sign() > 0 && a.Cmp(prime()) < 0 && big.Jacobi(a, prime()) == 1
}

// bytesOf gives a number's lowest size bytes, the lowest first.
func bytesOf(a *big.Int, size int) []byte {
	out := modulo(a, powerOfTwo(8*size)).FillBytes(make([]byte, size))
	slices.Reverse(out)
	return out
}

// numberOf gives the number of a's lowest 768 bits.
func numberOf(a *big.Int) wide.Number {
	var n wide.Number
	left, mask := new(big.Int).Set(a), new(big.Int).SetUint64(top)
	for i := range n {
		n[i] = new(big.Int).And(left, mask).Uint64()
		left.Rsh(left, 64)
	}
	return n
}

// anyNumber is one that the dice tell: of any number of bits, so that short ones come as well.
func anyNumber(r *rand.Rand) *big.Int {
	return new(big.Int).Rand(r, powerOfTwo(1+r.Intn(768)))
}

// anyElement gives a square of what the dice tell, so it is an element's number.
func anyElement(r *rand.Rand) *big.Int {
	a := above(new(big.Int).Rand(r, above(prime(), -1)), 1)
	return modulo(new(big.Int).Mul(a, a), prime())
}

func mustRead(t *testing.T, a *big.Int) group.Element {
	t.Helper()
	e, err := group.Read(bytesOf(a, 96))
	if err != api.OK {
		t.Fatalf("Read of %x: error %d", a, err)
	}
	return e
}

func mustReadScalar(t *testing.T, a *big.Int) group.Scalar {
	t.Helper()
	s, err := group.ReadScalar(bytesOf(a, 96))
	if err != api.OK {
		t.Fatalf("ReadScalar of %x: error %d", a, err)
	}
	return s
}

// withBytes is what elements and exponents have in common.
type withBytes interface {
	Bytes() [api.GroupBytes]byte
}

func expect(t *testing.T, what string, got withBytes, want *big.Int) {
	t.Helper()
	if b := got.Bytes(); string(b[:]) != string(bytesOf(want, 96)) {
		t.Errorf("%s: %x, wanted %x (the lowest byte first)", what, b, bytesOf(want, 96))
	}
}
