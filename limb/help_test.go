package limb_test

import (
	"math/big"
	"math/rand"
	"slices"
	"testing"

	"avouch/api"
	"avouch/limb"
)

const top = 1<<64 - 1

// edgeWords are the words at which carries, borrows and guessed quotients go wrong first.
var edgeWords = []uint64{0, 1, 2, 3, 1<<32 - 1, 1 << 32, 1<<63 - 1, 1 << 63, 1<<63 + 1, top - 1, top}

// dice always fall alike, so that a test that fails once fails again.
func dice() *rand.Rand { return rand.New(rand.NewSource(1)) }

func anyNumber(r *rand.Rand, size int) []uint64 {
	out := make([]uint64, size)
	for i := range out {
		if r.Intn(2) == 0 {
			out[i] = edgeWords[r.Intn(len(edgeWords))]
		} else {
			out[i] = r.Uint64()
		}
	}
	return out
}

func anyModulus(t *testing.T, r *rand.Rand, size int) *limb.Modulus {
	t.Helper()
	words := anyNumber(r, size)
	words[0] |= 1
	for words[size-1] < 2 {
		words[size-1] = r.Uint64() | 1
	}
	return mustNew(t, words)
}

func mustNew(t *testing.T, words []uint64) *limb.Modulus {
	t.Helper()
	m, err := limb.New(words)
	if err != api.OK || m == nil {
		t.Fatalf("New(%v): %v, error %d", words, m, err)
	}
	return m
}

// toBig is how the tests read a number: by the library's own numbers, not by this package.
func toBig(a []uint64) *big.Int {
	out := new(big.Int)
	for _, word := range slices.Backward(a) {
		out.Lsh(out, 64)
		out.Or(out, new(big.Int).SetUint64(word))
	}
	return out
}

// fromBig gives the lowest size words of a number from 0 on.
func fromBig(v *big.Int, size int) []uint64 {
	out := make([]uint64, size)
	rest := new(big.Int).Set(v)
	mask := new(big.Int).SetUint64(top)
	for i := range out {
		out[i] = new(big.Int).And(rest, mask).Uint64()
		rest.Rsh(rest, 64)
	}
	return out
}

func powerOfTwo(bits int) *big.Int { return new(big.Int).Lsh(big.NewInt(1), uint(bits)) }

// filled gives a list of size words that are all the same.
func filled(size int, word uint64) []uint64 { return slices.Repeat([]uint64{word}, size) }

func expectWords(t *testing.T, what string, got, want []uint64) {
	t.Helper()
	if !slices.Equal(got, want) {
		t.Errorf("%s: %v, wanted %v", what, got, want)
	}
}
