package digest_test

import (
	"crypto/sha3"
	"math/rand"
	"testing"

	"avouch/digest"
	"avouch/keccak"
)

// rate is how many bytes are xored into the state at once.
const rate = 136

// dice always fall alike, so that a test that fails once fails again.
func dice() *rand.Rand { return rand.New(rand.NewSource(7)) }

func anyBytes(r *rand.Rand, size int) []byte {
	b := make([]byte, size)
	r.Read(b)
	return b
}

// edges are lengths about the ends of blocks: the byte 6 stands among others, alone in the last block, first in a block of its own, or where 128 is added to it.
func edges() []int {
	return []int{0, 1, 2, 7, 8, 31, 32, 33, 133, 134, 135, 136, 137, 138, 199, 200, 201, 270, 271, 272, 273, 274, 406, 407, 408, 409, 543, 544, 545}
}

// model is written from the chapter's words: all bytes are filled up at once, and the state is gone through byte by byte.
func model(b []byte) [32]byte {
	all := append([]byte{}, b...)
	all = append(all, 6)
	for len(all)%rate != 0 {
		all = append(all, 0)
	}
	all[len(all)-1] += 128
	var s keccak.State
	for ; len(all) > 0; all = all[rate:] {
		for i, x := range all[:rate] {
			s[i/8] ^= uint64(x) << (8 * (i % 8))
		}
		s = s.Permute()
	}
	var out [32]byte
	for i := range out {
		out[i] = byte(s[i/8] >> (8 * (i % 8)))
	}
	return out
}

func expect(t *testing.T, what string, got, want [32]byte) {
	t.Helper()
	if got != want {
		t.Errorf("%s: %x, wanted %x", what, got, want)
	}
}

// expectOf holds a digest against the model's, and against the library's.
func expectOf(t *testing.T, what string, got [32]byte, b []byte) {
	t.Helper()
	expect(t, what, got, model(b))
	expect(t, what+" (the library)", got, sha3.Sum256(b))
}

// written gives a Hash that took bytes in pieces of one size.
func written(b []byte, size int) *digest.Hash {
	h := new(digest.Hash)
	for len(b) > size {
		h.Write(b[:size])
		b = b[size:]
	}
	h.Write(b)
	return h
}
