package grain_test

import (
	"math/big"
	"math/rand"
	"slices"
	"testing"

	"avouch/api"
	"avouch/field"
	"avouch/grain"
)

// numbers are those of a source: bits, width, full, partial.
type numbers [4]int

// poseidon are the numbers of layer 10's source.
var poseidon = numbers{254, 3, 8, 57}

// dice always fall alike, so that a test that fails once fails again.
func dice() *rand.Rand { return rand.New(rand.NewSource(8)) }

func anyNumbers(r *rand.Rand) numbers {
	return numbers{1 + r.Intn(4095), 1 + r.Intn(4095), r.Intn(1024), r.Intn(1024)}
}

// someNumbers are the ends of each number's bounds, all with all, each bit of a number by itself, and more that the dice
// tell.
func someNumbers(r *rand.Rand, more int) []numbers {
	out := []numbers{poseidon}
	for _, bits := range []int{1, 4095} {
		for _, width := range []int{1, 4095} {
			for _, full := range []int{0, 1023} {
				for _, partial := range []int{0, 1023} {
					out = append(out, numbers{bits, width, full, partial})
				}
			}
		}
	}
	for i := range 12 {
		out = append(out, numbers{1 << i, 3, 8, 57}, numbers{254, 1 << i, 8, 57})
	}
	for i := range 10 {
		out = append(out, numbers{254, 3, 1 << i, 57}, numbers{254, 3, 8, 1 << i})
	}
	for range more {
		out = append(out, anyNumbers(r))
	}
	return out
}

func ask(n numbers) (*grain.Source, api.Errno) { return grain.New(n[0], n[1], n[2], n[3]) }

func source(t *testing.T, n numbers) *grain.Source {
	t.Helper()
	s, err := ask(n)
	if err != api.OK || s == nil {
		t.Fatalf("New of %v: error %d", n, err)
	}
	return s
}

// register is the bits b0, b1, .. as a list, which is written from the chapter's words.
type register struct {
	list []bool
	// passed is how many pairs of turns were passed over for the last bit.
	passed int
	// refused is how many numbers weren't below p for the last element.
	refused int
}

func (g *register) lay(number, size int) {
	for i := range size {
		// The highest bit first.
		g.list = append(g.list, number/(1<<(size-1-i))%2 == 1)
	}
}

func model(n numbers) *register {
	g := &register{list: []bool{false, true, false, false, false, false}}
	g.lay(n[0], 12)
	g.lay(n[1], 12)
	g.lay(n[2], 10)
	g.lay(n[3], 10)
	for range 30 {
		g.list = append(g.list, true)
	}
	for range 160 {
		g.turn()
	}
	return g
}

func (g *register) turn() bool {
	bit := false
	for _, place := range []int{62, 51, 38, 23, 13, 0} {
		bit = bit != g.list[place]
	}
	g.list = append(g.list[1:], bit)
	return bit
}

func (g *register) bit() bool {
	for g.passed = 0; ; g.passed++ {
		first := g.turn()
		second := g.turn()
		if first {
			return second
		}
	}
}

// number gives the number of so many next bits; size is what the chapter makes of Number's argument.
func (g *register) number(size int) *big.Int {
	out := new(big.Int)
	for range size {
		out.Lsh(out, 1)
		if g.bit() {
			out.SetBit(out, 0, 1)
		}
	}
	return out
}

// element gives the number of the next field element.
func (g *register) element() *big.Int {
	for g.refused = 0; ; g.refused++ {
		if n := g.number(254); n.Cmp(prime()) < 0 {
			return n
		}
	}
}

// prime is p as layer 2's chapter writes it.
func prime() *big.Int {
	p, _ := new(big.Int).SetString("30644e72e131a029"+"b85045b68181585d"+"2833e84879b97091"+"43e1f593f0000001", 16)
	return p
}

// numberOf gives an element's number.
func numberOf(e field.Element) *big.Int {
	b := e.Bytes()
	slices.Reverse(b[:])
	return new(big.Int).SetBytes(b[:])
}

func expectBit(t *testing.T, what any, got, want bool) {
	t.Helper()
	if got != want {
		t.Fatalf("%v: the bit is %v, wanted %v", what, got, want)
	}
}

func expectNumber(t *testing.T, what any, got uint64, want *big.Int) {
	t.Helper()
	if !want.IsUint64() || got != want.Uint64() {
		t.Fatalf("%v: the number is %d, wanted %v", what, got, want)
	}
}

func expectElement(t *testing.T, what any, got field.Element, want *big.Int) {
	t.Helper()
	if n := numberOf(got); n.Cmp(want) != 0 {
		t.Fatalf("%v: the element is %v, wanted %v", what, n, want)
	}
}

// expectAlike holds what a source gives next against the model.
func expectAlike(t *testing.T, what any, s *grain.Source, g *register) {
	t.Helper()
	for range 100 {
		expectBit(t, what, s.Bit(), g.bit())
	}
}
