package limb

import (
	"math"
	"math/bits"
)

// room gives what rest asks for: words for a number of size words, or for a rest if that is longer, and one to spare.
func (m *Modulus) room(size int) []uint64 {
	return make([]uint64, max(size, len(m.words))+1)
}

// rest turns the number in work into its rest, and gives that piece of work. The last word of work must be 0: the
// number is shifted up into it.
func (m *Modulus) rest(work []uint64) []uint64 {
	n := len(m.words)
	shiftUp(work, m.shift)
	for i := len(work) - n - 1; i >= 0; i-- {
		cutOff(work[i:i+n+1], m.raised)
	}
	out := work[:n:n]
	shiftDown(out, m.shift)
	return out
}

// cutOff leaves the rest of window modulo divisor. The divisor's highest bit is set; the window has one word more, and
// without its lowest word it is less than the divisor.
func cutOff(window, divisor []uint64) {
	n := len(divisor)
	quotient := guess(window[n], window[n-1], divisor[n-1])
	borrow := subMultiple(window[:n], divisor, quotient)
	// The guess is never too small, and too great by two at most (Knuth, 4.3.1, theorems A and B).
	window[n], borrow = bits.Sub64(window[n], borrow, 0)
	for borrow == 1 {
		carry := addMultiple(window[:n], divisor, 1)
		window[n], carry = bits.Add64(window[n], carry, 0)
		borrow -= carry
	}
}

// guess gives the quotient of two words by one, or the greatest word if it isn't that small.
func guess(high, low, divisor uint64) uint64 {
	if high >= divisor {
		return math.MaxUint64
	}
	quotient, _ := bits.Div64(high, low, divisor)
	return quotient
}

// shiftUp multiplies by 2 to the power of shift, which is less than 64; what leaves its highest word is lost.
func shiftUp(a []uint64, shift int) {
	for i := len(a) - 1; i > 0; i-- {
		a[i] = a[i]<<shift | a[i-1]>>(wordBits-shift)
	}
	a[0] <<= shift
}

// shiftDown divides by 2 to the power of shift, which is less than 64; what leaves its lowest word is lost.
func shiftDown(a []uint64, shift int) {
	last := len(a) - 1
	for i := range last {
		a[i] = a[i]>>shift | a[i+1]<<(wordBits-shift)
	}
	a[last] >>= shift
}
