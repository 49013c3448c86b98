package grain

const (
	// longBits is how many bits of the register each of bits and width has.
	longBits = 12
	// shortBits is how many each of full and partial has.
	shortBits = 10
)

// register has the bits b0 to b79; each one is 0 or 1.
type register [80]byte

// filled gives the register as it is at first.
func filled(bits, width, full, partial int) register {
	var r register
	at := 0
	lay := func(number, size int) {
		for i := size - 1; i >= 0; i-- {
			r[at] = byte(number >> i & 1)
			at++
		}
	}
	lay(1, 2)
	lay(0, 4)
	lay(bits, longBits)
	lay(width, longBits)
	lay(full, shortBits)
	lay(partial, shortBits)
	lay(1<<30-1, 30)
	return r
}

// turn turns once, and gives the turn's bit.
func (r *register) turn() byte {
	bit := r[62] ^ r[51] ^ r[38] ^ r[23] ^ r[13] ^ r[0]
	copy(r[:], r[1:])
	r[len(r)-1] = bit
	return bit
}

// next gives the next bit. It ends: the register at first isn't all zeros, and a turn can be undone, so it never is; and
// the first bits of 80 pairs tell the whole register, so that one of them is 1.
func (r *register) next() byte {
again:
	first := r.turn()
	second := r.turn()
	if first == 0 {
		goto again
	}
	return second
}
