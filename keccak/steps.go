package keccak

import "math/bits"

const side = 5

// offsets say by how much rho turns each lane, modulo 64; in the order of a state's words.
var offsets = [side * side]int{
	0, 1, 62, 28, 27,
	36, 44, 6, 55, 20,
	3, 10, 43, 25, 39,
	41, 45, 15, 21, 8,
	18, 2, 61, 56, 14,
}

// lane gives the place of x and y, which may be beyond 4, among a state's words.
func lane(x, y int) int { return x%side + side*(y%side) }

func (s State) theta() State {
	columns := s.columns()
	for x := range side {
		// x + 4 is x - 1 modulo 5, and is never below 0.
		change := columns[(x+4)%side] ^ bits.RotateLeft64(columns[(x+1)%side], 1)
		for y := range side {
			s[lane(x, y)] ^= change
		}
	}
	return s
}

// columns gives for each x the xor of its lanes.
func (s State) columns() [side]uint64 {
	var out [side]uint64
	for i, word := range s {
		out[i%side] ^= word
	}
	return out
}

func (s State) rho() State {
	for i := range s {
		s[i] = bits.RotateLeft64(s[i], offsets[i])
	}
	return s
}

func (s State) pi() State {
	var out State
	for y := range side {
		for x := range side {
			out[lane(y, 2*x+3*y)] = s[lane(x, y)]
		}
	}
	return out
}

func (s State) chi() State {
	var out State
	for y := range side {
		for x := range side {
			out[lane(x, y)] = s[lane(x, y)] ^ (^s[lane(x+1, y)] & s[lane(x+2, y)])
		}
	}
	return out
}

// withConstant is iota.
func (s State) withConstant(round int) State {
	s[0] ^= Constant(round)
	return s
}
