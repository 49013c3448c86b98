package field

import "math/bits"

// size is how many words an element has. Lists of limb would be new memory at each step, of which a permutation takes
// more than a thousand: so elements are reckoned with here, as arrays.
const size = 4

// prime is p.
var prime = [size]uint64{0x43e1f593f0000001, 0x2833e84879b97091, 0xb85045b68181585d, 0x30644e72e131a029}

// raise is the rest of 2^512: product with it multiplies by 2^256.
var raise = [size]uint64{0x1bb8e645ae216da7, 0x53fe3ab1e35c59e3, 0x8c49833d53bb8085, 0x0216d0b17f4e44a5}

// minusInverse is that word which gives -1, multiplied by p, modulo 2^64.
const minusInverse = 0xc2e1f593efffffff

// sum gives a + b modulo p, of two that are below p. As p has less than 255 bits, nothing is carried out of the words.
func sum(a, b [size]uint64) [size]uint64 { return below(add(a, b)) }

// difference gives a - b modulo p, of two that are below p.
func difference(a, b [size]uint64) [size]uint64 {
	out, borrow := subtract(a, b)
	if borrow == 0 {
		return out
	}
	// What is carried out here is what was borrowed.
	return add(out, prime)
}

// below gives the rest modulo p of a number that is less than twice p.
func below(a [size]uint64) [size]uint64 {
	if out, borrow := subtract(a, prime); borrow == 0 {
		return out
	}
	return a
}

// add gives the words of a + b, without what is carried out of them.
func add(a, b [size]uint64) [size]uint64 {
	var carry uint64
	for i := range size {
		a[i], carry = bits.Add64(a[i], b[i], carry)
	}
	return a
}

// subtract gives the words of a - b, and what is borrowed.
func subtract(a, b [size]uint64) ([size]uint64, uint64) {
	var borrow uint64
	for i := range size {
		a[i], borrow = bits.Sub64(a[i], b[i], borrow)
	}
	return a, borrow
}

// product gives a times b, divided by 2^256, modulo p, of two that are below p (Montgomery's product). With each word of
// b as much of p is added as turns the lowest word into 0, which is dropped: so out stays less than twice p, and within
// its words.
func product(a, b [size]uint64) [size]uint64 {
	var out [size]uint64
	for _, factor := range b {
		high, low := multiplyAdd(a[0], factor, out[0], 0)
		times := low * minusInverse
		carry, _ := multiplyAdd(prime[0], times, low, 0)
		for i := 1; i < size; i++ {
			high, low = multiplyAdd(a[i], factor, out[i], high)
			carry, out[i-1] = multiplyAdd(prime[i], times, low, carry)
		}
		out[size-1] = high + carry
	}
	return below(out)
}

// multiplyAdd gives both words of a times b plus c plus d, which are enough for any words.
func multiplyAdd(a, b, c, d uint64) (high, low uint64) {
	high, low = bits.Mul64(a, b)
	low, carry := bits.Add64(low, c, 0)
	high += carry
	low, carry = bits.Add64(low, d, 0)
	return high + carry, low
}
