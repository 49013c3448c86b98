package keccak_test

import "avouch/keccak"

// cells is a state bit by bit, by x, y and z, so that each step is written as the chapter's words say it.
type cells [5][5][64]bool

func cellsOf(s keccak.State) cells {
	var a cells
	a.each(func(x, y, z int) bool { return s[place(x, y)]>>z&1 == 1 })
	return a
}

func (a cells) state() keccak.State {
	var s keccak.State
	for x := range 5 {
		for y := range 5 {
			for z := range 64 {
				if a[x][y][z] {
					s[place(x, y)] |= 1 << z
				}
			}
		}
	}
	return s
}

func (a *cells) each(bit func(x, y, z int) bool) {
	for x := range 5 {
		for y := range 5 {
			for z := range 64 {
				a[x][y][z] = bit(x, y, z)
			}
		}
	}
}

func (a cells) theta() cells {
	var sums [5][64]bool
	for x := range 5 {
		for y := range 5 {
			for z := range 64 {
				sums[x][z] = sums[x][z] != a[x][y][z]
			}
		}
	}
	var out cells
	out.each(func(x, y, z int) bool {
		// A bit that was turned by 1 stood one place lower.
		return a[x][y][z] != (sums[(x+4)%5][z] != sums[(x+1)%5][(z+63)%64])
	})
	return out
}

func offsetsByRule() [5][5]int {
	var out [5][5]int
	x, y := 1, 0
	for t := range 24 {
		out[x][y] = (t + 1) * (t + 2) / 2
		x, y = y, (2*x+3*y)%5
	}
	return out
}

func (a cells) rho() cells {
	offsets := offsetsByRule()
	var out cells
	for x := range 5 {
		for y := range 5 {
			for z := range 64 {
				out[x][y][(z+offsets[x][y])%64] = a[x][y][z]
			}
		}
	}
	return out
}

func (a cells) pi() cells {
	var out cells
	for x := range 5 {
		for y := range 5 {
			out[y][(2*x+3*y)%5] = a[x][y]
		}
	}
	return out
}

func (a cells) chi() cells {
	var out cells
	out.each(func(x, y, z int) bool {
		return a[x][y][z] != (!a[(x+1)%5][y][z] && a[(x+2)%5][y][z])
	})
	return out
}

func (a cells) iota(round int) cells {
	constant := constantByRule(round)
	for z := range 64 {
		a[0][0][z] = a[0][0][z] != (constant>>z&1 == 1)
	}
	return a
}

// constantByRule is 0 for a number that no round has.
func constantByRule(round int) uint64 {
	if round < 0 || round > 23 {
		return 0
	}
	var out uint64
	for j := range 7 {
		if roundBit(j + 7*round) {
			out |= 1 << (1<<j - 1)
		}
	}
	return out
}

func roundBit(turns int) bool {
	r := 1
	for range turns {
		r *= 2
		if r >= 256 {
			r ^= 369
		}
	}
	return r%2 == 1
}

func modelRound(s keccak.State, round int) keccak.State {
	return cellsOf(s).theta().rho().pi().chi().iota(round).state()
}

func modelPermute(s keccak.State) keccak.State {
	a := cellsOf(s)
	for round := range 24 {
		a = a.theta().rho().pi().chi().iota(round)
	}
	return a.state()
}
