package poseidon_test

import (
	"encoding/hex"
	"math"
	"math/big"
	"slices"
	"sync"
	"testing"

	"avouch/api"
	"avouch/field"
	"avouch/matrix"
	"avouch/poseidon"
)

// P10.1
func TestNumbersOfRounds(t *testing.T) {
	if poseidon.Ahead != 4 || poseidon.Partial != 57 || poseidon.Behind != 4 || poseidon.Rounds != 65 {
		t.Error("there are other numbers of rounds")
	}
}

// P10.1: each of the rounds, asked in order, backwards, and in any order.
func TestConstants(t *testing.T) {
	want := drawn(t)
	rising := make([]int, 65)
	for round := range rising {
		rising[round] = round
	}
	falling := slices.Clone(rising)
	slices.Reverse(falling)
	for _, order := range [][]int{rising, falling, dice().Perm(65)} {
		p := poseidon.New()
		for _, round := range order {
			expectVector(t, round, p.Constants(round), want[round])
		}
	}
}

// P10.1: of a permutation that was asked for no other one.
func TestConstantsOfOneRoundAlone(t *testing.T) {
	want := drawn(t)
	for round := range 65 {
		expectVector(t, round, poseidon.New().Constants(round), want[round])
	}
}

// P10.1: the first ones as they are known from elsewhere, the highest byte first.
func TestKnownConstants(t *testing.T) {
	p := poseidon.New()
	first := p.Constants(0)
	for i, want := range []string{
		"0ee9a592ba9a9518d05986d656f40c2114c4993c11bb29938d21d47304cd8e6e",
		"00f1445235f2148c5986587169fc1bcd887b08d4d00868df5696fff40956e864",
		"08dff3487e8ac99e1f29a058d0fa80b930c728730b7ab36ce879f3890ecf73f5",
		"2f27be690fdaee46c3ce28f7532b13c856c35342c84bda6e20966310fadc01d0",
	} {
		e := p.Constants(1)[0]
		if i < 3 {
			e = first[i]
		}
		b := e.Bytes()
		slices.Reverse(b[:])
		if got := hex.EncodeToString(b[:]); got != want {
			t.Errorf("constant %d: %s, wanted %s", i, got, want)
		}
	}
}

// P10.1: no two of the 195 are the same.
func TestConstantsAreUnlike(t *testing.T) {
	p := poseidon.New()
	seen := map[[api.FieldBytes]byte]bool{{}: true}
	for round := range 65 {
		for i, e := range p.Constants(round) {
			if seen[e.Bytes()] {
				t.Errorf("the constant %d of the round %d was there ahead, or is 0", i, round)
			}
			seen[e.Bytes()] = true
		}
	}
}

// P10.1: zeros, of a permutation that was asked for none yet, and of one that was.
func TestConstantsOfNoRound(t *testing.T) {
	asked := poseidon.New()
	asked.Constants(64)
	for _, round := range otherRounds() {
		expectVector(t, round, poseidon.New().Constants(round), small(0, 0, 0))
		expectVector(t, round, asked.Constants(round), small(0, 0, 0))
	}
}

// P10.1: asking for a round that there isn't moves nothing.
func TestConstantsBetweenOthers(t *testing.T) {
	want := drawn(t)
	p := poseidon.New()
	for round := range 65 {
		p.Constants(-1)
		p.Constants(math.MaxInt)
		expectVector(t, round, p.Constants(round), want[round])
		expectVector(t, round+65, p.Constants(round+65), small(0, 0, 0))
	}
}

// K5, of P10.1: what is answered is new.
func TestConstantsAreNotHandedOut(t *testing.T) {
	want := drawn(t)
	p := poseidon.New()
	for round := range 65 {
		c := p.Constants(round)
		c[0], c[1], c[2] = c[1], c[2], field.FromUint64(9)
		expectVector(t, round, p.Constants(round), want[round])
		expectVector(t, round, poseidon.New().Constants(round), want[round])
	}
}

// P10.1
func TestPower(t *testing.T) {
	r := dice()
	all := edgeNumbers()
	for range 300 {
		all = append(all, new(big.Int).Rand(r, prime()))
	}
	for _, v := range drawn(t) {
		all = append(all, v[:]...)
	}
	for _, a := range all {
		e := element(t, a)
		expectElement(t, a, poseidon.Power(e), fifth(a))
		expectElement(t, "what was handed in", e, a)
	}
}

// P10.1
func TestKnownPowers(t *testing.T) {
	for a, want := range []int64{0, 1, 32, 243, 1024, 3125, 7776, 16807} {
		expectElement(t, a, poseidon.Power(field.FromUint64(uint64(a))), big.NewInt(want))
		expectElement(t, -a, poseidon.Power(field.FromUint64(uint64(a)).Neg()), rest(big.NewInt(-want)))
	}
	expectElement(t, "the zero Element", poseidon.Power(field.Element{}), new(big.Int))
}

// P10.1: of each bit by itself, so that every word of an element is met.
func TestPowerOfPowersOfTwo(t *testing.T) {
	for bits := range uint(254) {
		e := element(t, new(big.Int).Lsh(big.NewInt(1), bits))
		expectElement(t, bits, poseidon.Power(e), rest(new(big.Int).Lsh(big.NewInt(1), 5*bits)))
	}
}

// K5, of P10.1
func TestPermutationsAreNew(t *testing.T) {
	p, q := poseidon.New(), poseidon.New()
	if p == nil || q == nil || p == q {
		t.Error("no permutation, or one twice")
	}
}

// K6, of P10.1 and P10.2: whichever call comes first, it answers the same, and so do those behind it.
func TestAnyCallFirst(t *testing.T) {
	m := newModel(t)
	v := small(5, 7, 11)
	calls := []func(p *poseidon.Permutation){
		func(p *poseidon.Permutation) { expectVector(t, "Constants of 0", p.Constants(0), m.constants[0]) },
		func(p *poseidon.Permutation) { expectVector(t, "Constants of 64", p.Constants(64), m.constants[64]) },
		func(p *poseidon.Permutation) { expectVector(t, "Constants of -1", p.Constants(-1), small(0, 0, 0)) },
		func(p *poseidon.Permutation) { expectVector(t, "Round 0", p.Round(elements(t, v), 0), m.round(v, 0)) },
		func(p *poseidon.Permutation) {
			expectVector(t, "Round 30", p.Round(elements(t, v), 30), m.round(v, 30))
		},
		func(p *poseidon.Permutation) {
			expectVector(t, "Round 65", p.Round(elements(t, v), 65), m.round(v, 65))
		},
		func(p *poseidon.Permutation) { expectVector(t, "Permute", p.Permute(elements(t, v)), m.permuted(v)) },
		func(p *poseidon.Permutation) {
			expectElement(t, "Power", poseidon.Power(field.FromUint64(3)), big.NewInt(243))
		},
	}
	for i := range calls {
		for j := range calls {
			p := poseidon.New()
			calls[i](p)
			calls[j](p)
			calls[i](p)
		}
	}
}

// K6, of P10.1 and P10.2: asked twice, of one permutation, and of two by turns.
func TestSameCallsSameAnswers(t *testing.T) {
	r := dice()
	one, other := poseidon.New(), poseidon.New()
	for range 100 {
		v, round := elements(t, anyVector(r)), r.Intn(75)-5
		constants, behind, permuted := one.Constants(round), one.Round(v, round), one.Permute(v)
		other.Round(behind, round+1)
		for _, p := range []*poseidon.Permutation{other, one} {
			// The other way round.
			expectVector(t, "Permute", p.Permute(v), numbers(permuted))
			expectVector(t, round, p.Round(v, round), numbers(behind))
			expectVector(t, round, p.Constants(round), numbers(constants))
		}
	}
}

// K6, of P10.1 and P10.2: several who ask a new permutation at the same time.
func TestAtTheSameTime(t *testing.T) {
	m := newModel(t)
	v := elements(t, small(1, 2, 3))
	for range 20 {
		p := poseidon.New()
		var constants, behind, permuted [12]matrix.Vector
		var all sync.WaitGroup
		for i := range constants {
			all.Go(func() {
				constants[i], behind[i], permuted[i] = p.Constants(5*i), p.Round(v, 5*i), p.Permute(v)
			})
		}
		all.Wait()
		for i := range constants {
			expectVector(t, i, constants[i], m.constants[5*i])
			expectVector(t, i, behind[i], m.round(numbers(v), 5*i))
			expectVector(t, i, permuted[i], m.permuted(numbers(v)))
		}
	}
}
