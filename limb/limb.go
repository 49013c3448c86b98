// Package limb is layer 1: see shared/doc/01-limb.md.
package limb

import (
	"cmp"
	"math/bits"
)

const (
	wordBits  = 64
	wordBytes = 8
)

// Add adds two numbers.
func Add(a, b []uint64) ([]uint64, uint64) {
	sum := make([]uint64, max(len(a), len(b)))
	var carry uint64
	for i := range sum {
		sum[i], carry = bits.Add64(wordAt(a, i), wordAt(b, i), carry)
	}
	return sum, carry
}

// Sub takes a number from another one.
func Sub(a, b []uint64) ([]uint64, uint64) {
	difference := make([]uint64, max(len(a), len(b)))
	var borrow uint64
	for i := range difference {
		difference[i], borrow = bits.Sub64(wordAt(a, i), wordAt(b, i), borrow)
	}
	return difference, borrow
}

// Cmp tells which number is the greater one.
func Cmp(a, b []uint64) int {
	for i := max(len(a), len(b)) - 1; i >= 0; i-- {
		if c := cmp.Compare(wordAt(a, i), wordAt(b, i)); c != 0 {
			return c
		}
	}
	return 0
}

// Mul multiplies two numbers.
func Mul(a, b []uint64) []uint64 {
	product := make([]uint64, len(a)+len(b))
	multiply(product, a, b)
	return product
}

// Bits gives how many bits a number has.
func Bits(a []uint64) int {
	for i := len(a) - 1; i >= 0; i-- {
		if a[i] != 0 {
			return i*wordBits + bits.Len64(a[i])
		}
	}
	return 0
}

// Bytes gives a number's bytes.
func Bytes(a []uint64) []byte {
	out := make([]byte, 0, len(a)*wordBytes)
	for _, word := range a {
		for i := range wordBytes {
			out = append(out, byte(word>>(8*i)))
		}
	}
	return out
}

// Words gives the number of bytes.
func Words(b []byte) []uint64 {
	out := make([]uint64, (len(b)+wordBytes-1)/wordBytes)
	for i, v := range b {
		out[i/wordBytes] |= uint64(v) << (8 * (i % wordBytes))
	}
	return out
}

// wordAt lets lists of unlike lengths be reckoned with alike: behind its end a number's words are 0.
func wordAt(a []uint64, i int) uint64 {
	if i < len(a) {
		return a[i]
	}
	return 0
}

// multiply lays a times b into product, which is 0 and has at least as many words as both have together.
func multiply(product, a, b []uint64) {
	for i, factor := range a {
		end := i + len(b)
		product[end] = addMultiple(product[i:end], b, factor)
	}
}

// addMultiple adds b times factor to out, which is as long as b, and gives the word that is carried.
func addMultiple(out, b []uint64, factor uint64) uint64 {
	var carry, c uint64
	for i, word := range b {
		high, low := bits.Mul64(word, factor)
		low, c = bits.Add64(low, carry, 0)
		high += c
		out[i], c = bits.Add64(out[i], low, 0)
		carry = high + c
	}
	return carry
}

// subMultiple takes b times factor from out, which is as long as b, and gives the word that is borrowed.
func subMultiple(out, b []uint64, factor uint64) uint64 {
	var borrow, c uint64
	for i, word := range b {
		high, low := bits.Mul64(word, factor)
		low, c = bits.Add64(low, borrow, 0)
		high += c
		out[i], c = bits.Sub64(out[i], low, 0)
		borrow = high + c
	}
	return borrow
}
