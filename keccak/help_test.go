package keccak_test

import (
	"math"
	"math/rand"
	"testing"

	"avouch/keccak"
)

const top = 1<<64 - 1

// dice always fall alike, so that a test that fails once fails again.
func dice() *rand.Rand { return rand.New(rand.NewSource(6)) }

func anyState(r *rand.Rand) keccak.State {
	var s keccak.State
	for i := range s {
		s[i] = r.Uint64()
	}
	return s
}

// filled gives a state whose lanes are all the same.
func filled(lane uint64) keccak.State {
	var s keccak.State
	for i := range s {
		s[i] = lane
	}
	return s
}

// place gives where the lane of x and y stands.
func place(x, y int) int { return x + 5*y }

// otherRounds are numbers that no round of a permutation has.
func otherRounds() []int {
	return []int{-1, -2, -23, -24, -64, 24, 25, 47, 48, 255, 256, 1 << 32, math.MinInt, math.MinInt + 1, math.MaxInt, math.MaxInt - 1}
}

func expect(t *testing.T, what string, got, want keccak.State) {
	t.Helper()
	if got == want {
		return
	}
	for i := range want {
		if got[i] != want[i] {
			t.Errorf("%s: lane %d is %016x, wanted %016x", what, i, got[i], want[i])
			return
		}
	}
}
