package keccak_test

import (
	"math/bits"
	"testing"

	"avouch/keccak"
)

// P6.2
func TestRoundOfOneBit(t *testing.T) {
	for i := range 25 {
		for z := range 64 {
			var s keccak.State
			s[i] = 1 << z
			expect(t, "Round", s.Round(z%24), modelRound(s, z%24))
		}
	}
}

// P6.2
func TestRoundOfOneBitInEachLane(t *testing.T) {
	for z := range 64 {
		s := filled(1 << z)
		expect(t, "the same bit", s.Round(z%24), modelRound(s, z%24))
		for i := range s {
			s[i] = bits.RotateLeft64(1, z+7*i)
		}
		expect(t, "unlike bits", s.Round(z%24), modelRound(s, z%24))
	}
}

// P6.2
func TestRoundWithEachNumber(t *testing.T) {
	r := dice()
	for round := range 24 {
		for _, s := range []keccak.State{{}, filled(top), anyState(r), anyState(r)} {
			expect(t, "Round", s.Round(round), modelRound(s, round))
		}
	}
}

// P6.2: of another number the constant is 0.
func TestRoundWithOtherNumbers(t *testing.T) {
	r := dice()
	for _, round := range otherRounds() {
		expect(t, "of nothing", keccak.State{}.Round(round), keccak.State{})
		for _, s := range []keccak.State{filled(top), anyState(r)} {
			expect(t, "Round", s.Round(round), modelRound(s, round))
			with := s.Round(5)
			with[0] ^= keccak.Constant(5)
			expect(t, "Round without its constant", s.Round(round), with)
		}
	}
}

// P6.2, iota: of nothing there comes the constant alone, in the lane (0, 0).
func TestRoundOfNothing(t *testing.T) {
	for round := range 24 {
		expect(t, "Round", keccak.State{}.Round(round), keccak.State{constantByRule(round)})
	}
}

// afterChi is what chi makes of a lone bit at (x, y): it stays, and it comes also to the lane two before it.
func afterChi(x, y int, bit uint64) keccak.State {
	var s keccak.State
	s[place(x, y)] ^= bit
	s[place((x+3)%5, y)] ^= bit
	return s
}

// xored tells of two states that share no row how they come out of a round together.
func xored(a, b keccak.State) keccak.State {
	for i := range a {
		a[i] ^= b[i]
	}
	return a
}

// P6.2, rho and pi: two bits of one column, which theta leaves as they are, are turned, and go to unlike rows.
func TestRoundOfTwoBitsOfAColumn(t *testing.T) {
	offsets := offsetsByRule()
	moved := func(x, y, z int) keccak.State {
		return afterChi(y, (2*x+3*y)%5, bits.RotateLeft64(1<<z, offsets[x][y]))
	}
	for x := range 5 {
		for y := range 5 {
			for _, z := range []int{0, 1, 30, 62, 63} {
				other := (y + 1) % 5
				var s keccak.State
				s[place(x, y)], s[place(x, other)] = 1<<z, 1<<z
				expect(t, "Round", s.Round(-1), xored(moved(x, y, z), moved(x, other, z)))
			}
		}
	}
}

// P6.2, theta: a lone bit of (0, 0), which rho and pi leave where it is, comes to all of the columns beside it.
func TestRoundOfTheFirstLane(t *testing.T) {
	offsets := offsetsByRule()
	want := cellsOf(keccak.State{1})
	for y := range 5 {
		// The column to the right takes the bit as it is, that to the left takes it turned by 1.
		right, left := offsets[1][y], 1+offsets[4][y]
		want[y][(2+3*y)%5][right%64] = true
		want[y][(8+3*y)%5][left%64] = true
	}
	expect(t, "Round", keccak.State{1}.Round(24), want.chi().state())
}

// P6.2: of all ones only iota makes something else.
func TestRoundOfOnes(t *testing.T) {
	// Each sum of a column is all ones, so theta's two sums cancel; and chi takes nothing from behind a lane of ones.
	expect(t, "Round", filled(top).Round(-1), filled(top))
	with := filled(top)
	with[0] ^= 1
	expect(t, "Round", filled(top).Round(0), with)
}
