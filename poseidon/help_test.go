package poseidon_test

import (
	"math"
	"math/big"
	"math/rand"
	"slices"
	"testing"

	"avouch/api"
	"avouch/field"
	"avouch/grain"
	"avouch/matrix"
)

// vector is what the tests reckon with by themselves: the library's own numbers, from 0 to p - 1.
type vector [3]*big.Int

// dice always fall alike, so that a test that fails once fails again.
func dice() *rand.Rand { return rand.New(rand.NewSource(10)) }

// prime is p as layer 2's chapter writes it.
func prime() *big.Int {
	p, _ := new(big.Int).SetString("30644e72e131a029"+"b85045b68181585d"+"2833e84879b97091"+"43e1f593f0000001", 16)
	return p
}

// rest gives a number's rest modulo p.
func rest(a *big.Int) *big.Int { return new(big.Int).Mod(a, prime()) }

func plus(a, b *big.Int) *big.Int { return rest(new(big.Int).Add(a, b)) }

func less(a, b *big.Int) *big.Int { return rest(new(big.Int).Sub(a, b)) }

func times(a, b *big.Int) *big.Int { return rest(new(big.Int).Mul(a, b)) }

// fifth gives a times a times a times a times a.
func fifth(a *big.Int) *big.Int {
	out := big.NewInt(1)
	for range 5 {
		out = times(out, a)
	}
	return out
}

// small reads small numbers, of either sign.
func small(a, b, c int64) vector {
	return vector{rest(big.NewInt(a)), rest(big.NewInt(b)), rest(big.NewInt(c))}
}

// number gives an element's number.
func number(e field.Element) *big.Int {
	b := e.Bytes()
	slices.Reverse(b[:])
	return new(big.Int).SetBytes(b[:])
}

func numbers(v matrix.Vector) vector { return vector{number(v[0]), number(v[1]), number(v[2])} }

func element(t *testing.T, a *big.Int) field.Element {
	t.Helper()
	b := a.FillBytes(make([]byte, api.FieldBytes))
	slices.Reverse(b)
	e, err := field.FromBytes(b)
	if err != api.OK {
		t.Fatalf("FromBytes of %v: error %d", a, err)
	}
	return e
}

func elements(t *testing.T, v vector) matrix.Vector {
	t.Helper()
	return matrix.Vector{element(t, v[0]), element(t, v[1]), element(t, v[2])}
}

// drawn gives what a source gives: three elements of each of the 65 rounds, one after the other.
func drawn(t *testing.T) [65]vector {
	t.Helper()
	s, err := grain.New(254, 3, 8, 57)
	if err != api.OK {
		t.Fatalf("no source: error %d", err)
	}
	var out [65]vector
	for round := range 65 {
		for i := range 3 {
			out[round][i] = number(s.Element())
		}
	}
	return out
}

// model does the rounds by the chapter's words.
type model struct {
	constants [65]vector
	mixing    [3]vector
}

func newModel(t *testing.T) *model {
	t.Helper()
	m := &model{constants: drawn(t)}
	for i := range 3 {
		for j := range 3 {
			m.mixing[i][j] = new(big.Int).ModInverse(big.NewInt(int64(i+j+3)), prime())
		}
	}
	return m
}

// constantsOf gives zeros of a round that there isn't.
func (m *model) constantsOf(round int) vector {
	if round < 0 || round > 64 {
		return small(0, 0, 0)
	}
	return m.constants[round]
}

func plusEach(v, w vector) vector {
	return vector{plus(v[0], w[0]), plus(v[1], w[1]), plus(v[2], w[2])}
}

func lessEach(v, w vector) vector {
	return vector{less(v[0], w[0]), less(v[1], w[1]), less(v[2], w[2])}
}

// mixed multiplies by Cauchy's matrix.
func (m *model) mixed(v vector) vector {
	out := small(0, 0, 0)
	for i := range 3 {
		for j := range 3 {
			out[i] = plus(out[i], times(m.mixing[i][j], v[j]))
		}
	}
	return out
}

// partly tells whether a round's first element alone becomes its fifth power: there are 4 full ones ahead of 57 such.
func partly(round int) bool { return round >= 4 && round <= 60 }

// round does the three steps, one after the other.
func (m *model) round(v vector, round int) vector {
	v = plusEach(v, m.constantsOf(round))
	for i := range 3 {
		if i == 0 || !partly(round) {
			v[i] = fifth(v[i])
		}
	}
	return m.mixed(v)
}

func (m *model) permuted(v vector) vector {
	for round := 0; round <= 64; round++ {
		v = m.round(v, round)
	}
	return v
}

// otherRounds are numbers of rounds that there aren't, among them such as are one that there is in fewer bits.
func otherRounds() []int {
	return []int{
		-1, 65, math.MinInt, math.MaxInt, math.MinInt + 1, math.MaxInt - 1, math.MinInt + 4, -2, -3, -4, -5, -57, -60, -61, -64, -65, -66,
		66, 67, 69, 127, 128, 129, 130, 256, 260, -252, 1 << 16, 1<<32 - 1, 1 << 32, 1<<32 + 4, -1 << 32, math.MinInt32, math.MaxInt32,
	}
}

// edgeNumbers are those at which sums and products go wrong first.
func edgeNumbers() []*big.Int {
	p := prime()
	half := new(big.Int).Rsh(p, 1)
	return []*big.Int{
		big.NewInt(0), big.NewInt(1), big.NewInt(2), big.NewInt(3), less(p, big.NewInt(1)), less(p, big.NewInt(2)), half, plus(half, big.NewInt(1)),
		new(big.Int).Lsh(big.NewInt(1), 64), new(big.Int).Lsh(big.NewInt(1), 253),
	}
}

func anyVector(r *rand.Rand) vector {
	return vector{new(big.Int).Rand(r, prime()), new(big.Int).Rand(r, prime()), new(big.Int).Rand(r, prime())}
}

// extremes are all the vectors whose elements are 0, 1 and p - 1 alone.
func extremes() []vector {
	var out []vector
	for a := int64(-1); a <= 1; a++ {
		for b := int64(-1); b <= 1; b++ {
			for c := int64(-1); c <= 1; c++ {
				out = append(out, small(a, b, c))
			}
		}
	}
	return out
}

// someVectors are extremes, small ones whose elements are unlike, edges, and more that the dice tell.
func someVectors(r *rand.Rand, more int) []vector {
	out := append(extremes(), small(1, 2, 3), small(2, 0, 0), small(0, 2, 0), small(0, 0, 2), small(-2, 3, -5))
	edges := edgeNumbers()
	for range more {
		out = append(out, anyVector(r), vector{edges[r.Intn(len(edges))], edges[r.Intn(len(edges))], edges[r.Intn(len(edges))]})
	}
	return out
}

func expectElement(t *testing.T, what any, got field.Element, want *big.Int) {
	t.Helper()
	if n := number(got); n.Cmp(want) != 0 {
		t.Errorf("%v: %v, wanted %v", what, n, want)
	}
}

func expectVector(t *testing.T, what any, got matrix.Vector, want vector) {
	t.Helper()
	for i := range 3 {
		if n := number(got[i]); n.Cmp(want[i]) != 0 {
			t.Errorf("%v: the element %d is %v, wanted %v", what, i, n, want[i])
		}
	}
}

// expectOther asks that one element at least is another one.
func expectOther(t *testing.T, what any, got matrix.Vector, than vector) {
	t.Helper()
	for i := range 3 {
		if number(got[i]).Cmp(than[i]) != 0 {
			return
		}
	}
	t.Errorf("%v: still %v", what, than)
}
