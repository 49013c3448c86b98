package poseidon_test

import (
	"math/big"
	"testing"

	"avouch/matrix"
	"avouch/poseidon"
)

// P10.2: the full rounds and the partial ones, both turns between them, and the ends.
func TestRound(t *testing.T) {
	m, p := newModel(t), poseidon.New()
	all := someVectors(dice(), 30)
	for _, round := range []int{0, 3, 4, 30, 60, 61, 64} {
		for _, v := range all {
			expectVector(t, round, p.Round(elements(t, v), round), m.round(v, round))
		}
	}
}

// P10.2
func TestEachRound(t *testing.T) {
	r := dice()
	m, p := newModel(t), poseidon.New()
	for round := range 65 {
		for _, v := range []vector{small(0, 0, 0), small(1, 2, 3), small(-1, -1, -1), anyVector(r), anyVector(r)} {
			expectVector(t, round, p.Round(elements(t, v), round), m.round(v, round))
		}
	}
}

// P10.2: the constants are added first: what they turn into 0, 1 and p - 1 stays so till the matrix comes.
func TestRoundAddsTheConstantsFirst(t *testing.T) {
	m, p := newModel(t), poseidon.New()
	for round := range 65 {
		for _, v := range extremes() {
			got := p.Round(elements(t, lessEach(v, m.constants[round])), round)
			expectVector(t, round, got, m.mixed(v))
		}
	}
}

// P10.2: the matrix comes last: of one element alone that is 2 behind the constants there is one column.
func TestRoundMultipliesLast(t *testing.T) {
	m, p := newModel(t), poseidon.New()
	for round := range 65 {
		for j := range 3 {
			v := small(0, 0, 0)
			v[j] = big.NewInt(2)
			factor := big.NewInt(32)
			if j > 0 && partly(round) {
				factor = big.NewInt(2)
			}
			var want vector
			for i := range 3 {
				want[i] = times(factor, m.mixing[i][j])
			}
			expectVector(t, round, p.Round(elements(t, lessEach(v, m.constants[round])), round), want)
		}
	}
}

// P10.2: in a partial round the second and the third element go on as they are: one more of such an element is one more
// of its column. In a full round, and with the first element, it isn't.
func TestRoundPowersTheFirstElementAlone(t *testing.T) {
	r := dice()
	m, p := newModel(t), poseidon.New()
	for round := range 65 {
		for j := range 3 {
			v := anyVector(r)
			more := v
			more[j] = plus(v[j], big.NewInt(1))
			column := vector{m.mixing[0][j], m.mixing[1][j], m.mixing[2][j]}
			want := plusEach(numbers(p.Round(elements(t, v), round)), column)
			got := p.Round(elements(t, more), round)
			if j > 0 && round >= poseidon.Ahead && round < poseidon.Ahead+poseidon.Partial {
				expectVector(t, round, got, want)
			} else {
				expectOther(t, round, got, want)
			}
		}
	}
}

// P10.2: of a number of no round a full round with the constants 0.
func TestRoundOfNoRound(t *testing.T) {
	r := dice()
	m, p := newModel(t), poseidon.New()
	for _, round := range otherRounds() {
		for _, v := range append(extremes(), small(2, 0, 0), small(0, 2, 0), small(0, 0, 2), small(2, 3, 5), anyVector(r), anyVector(r)) {
			want := m.mixed(vector{fifth(v[0]), fifth(v[1]), fifth(v[2])})
			expectVector(t, round, p.Round(elements(t, v), round), want)
		}
		expectVector(t, round, poseidon.New().Round(elements(t, small(2, 3, 5)), round), m.mixed(small(32, 243, 3125)))
		expectVector(t, round, p.Round(matrix.Vector{}, round), small(0, 0, 0))
	}
}

// P10.2
func TestPermute(t *testing.T) {
	m, p := newModel(t), poseidon.New()
	for _, v := range someVectors(dice(), 60) {
		expectVector(t, v, p.Permute(elements(t, v)), m.permuted(v))
	}
}

// P10.2: the rounds 0 to 64, one behind the other, and none left out.
func TestPermuteIsAllRounds(t *testing.T) {
	p := poseidon.New()
	for _, v := range someVectors(dice(), 60) {
		x := elements(t, v)
		for round := range 65 {
			x = p.Round(x, round)
		}
		expectVector(t, v, p.Permute(elements(t, v)), numbers(x))
	}
}

// P10.2: behind one another, too.
func TestPermuteAgainAndAgain(t *testing.T) {
	m, p := newModel(t), poseidon.New()
	got, want := matrix.Vector{}, small(0, 0, 0)
	for range 50 {
		got, want = p.Permute(got), m.permuted(want)
	}
	expectVector(t, "behind 50 of them", got, want)
}

// P10.2, the chapter's example 1: nor does any element of it.
func TestZeroVectorDoesNotStayZero(t *testing.T) {
	for i, e := range poseidon.New().Permute(matrix.Vector{}) {
		if e.IsZero() {
			t.Errorf("the element %d stays 0", i)
		}
	}
}

// P10.2: unlike vectors stay unlike, also where they have the same elements in other places.
func TestPermuteKeepsVectorsApart(t *testing.T) {
	p := poseidon.New()
	seen := map[matrix.Vector]vector{}
	for _, v := range append(extremes(), small(1, 2, 3), small(1, 3, 2), small(2, 1, 3), small(2, 3, 1), small(3, 1, 2), small(3, 2, 1)) {
		out := p.Permute(elements(t, v))
		if other, ok := seen[out]; ok {
			t.Errorf("%v and %v become the same", v, other)
		}
		seen[out] = v
		expectOther(t, "Permute", out, v)
	}
}

// K5, of P10.2: what was handed in is as it was, and what was answered isn't kept.
func TestVectorsAreNeitherChangedNorKept(t *testing.T) {
	r := dice()
	m, p := newModel(t), poseidon.New()
	for _, v := range someVectors(r, 20) {
		w := elements(t, v)
		round := r.Intn(67) - 1
		behind, permuted := p.Round(w, round), p.Permute(w)
		expectVector(t, "what was handed in", w, v)
		clear(behind[:])
		clear(permuted[:])
		expectVector(t, "Round again", p.Round(w, round), m.round(v, round))
		expectVector(t, "Permute again", p.Permute(w), m.permuted(v))
	}
}
