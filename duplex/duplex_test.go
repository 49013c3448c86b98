package duplex_test

import (
	"slices"
	"testing"

	"avouch/api"
	"avouch/duplex"
	"avouch/field"
	"avouch/matrix"
	"avouch/poseidon"
)

// P11.1
func TestWidthAndRate(t *testing.T) {
	k, p := duplex.Keccak(), duplex.Poseidon()
	if k.Width() != 200 || k.Rate() != 136 {
		t.Errorf("Keccak: %d and %d", k.Width(), k.Rate())
	}
	if p.Width() != 3 || p.Rate() != 2 {
		t.Errorf("Poseidon: %d and %d", p.Width(), p.Rate())
	}
}

// P11.1: in place, of any state, and again and again.
func TestPermute(t *testing.T) {
	testPermute(t, ofBytes())
	testPermute(t, ofElements())
}

func testPermute[U any](t *testing.T, k kind[U]) {
	r := dice()
	states := [][]U{make([]U, k.width)}
	for i := range k.width {
		one := make([]U, k.width)
		one[i] = k.unit(r)
		states = append(states, one, k.units(r, k.width))
	}
	for _, state := range states {
		for range 4 {
			want := k.turned(slices.Clone(state))
			k.permutation.Permute(state)
			k.expect(t, "Permute", state, want)
		}
	}
}

// P11.1: what stands about a state in one list stays.
func TestPermuteWithinAList(t *testing.T) {
	testPermuteWithinAList(t, ofBytes())
	testPermuteWithinAList(t, ofElements())
}

func testPermuteWithinAList[U any](t *testing.T, k kind[U]) {
	list := k.units(dice(), 3*k.width)
	was := slices.Clone(list)
	k.permutation.Permute(list[k.width : 2*k.width])
	k.expect(t, "ahead", list[:k.width], was[:k.width])
	k.expect(t, "the state", list[k.width:2*k.width], k.turned(was[k.width:2*k.width]))
	k.expect(t, "behind", list[2*k.width:], was[2*k.width:])
}

// P1, of P11.1: a list that is no state, as it has another length, stays.
func TestPermuteOfNoState(t *testing.T) {
	testPermuteOfNoState(t, ofBytes())
	testPermuteOfNoState(t, ofElements())
}

func testPermuteOfNoState[U any](t *testing.T, k kind[U]) {
	for _, size := range []int{0, 1, k.rate, k.width - 1, k.width + 1, k.width + k.rate, 2 * k.width} {
		list := k.units(dice(), size)
		was := slices.Clone(list)
		k.permutation.Permute(list)
		k.expect(t, "no state", list, was)
		// There is room for a state, which no part of the list is.
		room := append(slices.Clone(list), make([]U, k.width)...)
		k.permutation.Permute(room[:size])
		k.expect(t, "no state, with room behind", room[:size], was)
		k.expect(t, "the room", room[size:], make([]U, k.width))
	}
	k.permutation.Permute(nil)
}

// P11.1: of both permutations as the layers below have them.
func TestPermuteOfTheZeroState(t *testing.T) {
	b := make([]byte, 200)
	duplex.Keccak().Permute(b)
	ofBytes().expect(t, "the first lanes", b[:16], []byte{
		0xE7, 0xDD, 0xE1, 0x40, 0x79, 0x8F, 0x25, 0xF1, 0x8A, 0x47, 0xC0, 0x33, 0xF9, 0xCC, 0xD5, 0x84,
	})
	l := make([]field.Element, 3)
	duplex.Poseidon().Permute(l)
	v := poseidon.New().Permute(matrix.Vector{})
	ofElements().expect(t, "the elements", l, v[:])
}

// P11.1
func TestNew(t *testing.T) {
	testNew(t, ofBytes())
	testNew(t, ofElements())
}

func testNew[U any](t *testing.T, k kind[U]) {
	r := dice()
	room := k.width - k.rate
	for size := range room + 1 {
		behind := k.units(r, size)
		s := k.sponge(t, behind...)
		state := s.State()
		k.expect(t, "the rate's units", state[:k.rate], make([]U, k.rate))
		k.expect(t, "those behind", state[k.rate:k.rate+size], behind)
		k.expect(t, "the rest", state[k.rate+size:], make([]U, room-size))
		k.expectLike(t, "New", s, k.model(behind...))
	}
}

// P11.1; K1: nothing behind, a nil list, and an empty one are the same.
func TestNewOfNothingBehind(t *testing.T) {
	testNewOfNothingBehind(t, ofBytes())
	testNewOfNothingBehind(t, ofElements())
}

func testNewOfNothingBehind[U any](t *testing.T, k kind[U]) {
	none, err := duplex.New(k.permutation)
	if err != api.OK {
		t.Fatalf("%s: error %d", k.name, err)
	}
	for _, s := range []*duplex.Sponge[U]{none, k.sponge(t, []U(nil)...), k.sponge(t, []U{}...)} {
		k.expect(t, "State", s.State(), make([]U, k.width))
		k.expectCalls(t, "New", s, 0)
		k.expectLike(t, "New", s, k.model())
	}
}

// P11.1; K3
func TestNewOfTooManyBehind(t *testing.T) {
	testNewOfTooManyBehind(t, ofBytes())
	testNewOfTooManyBehind(t, ofElements())
}

func testNewOfTooManyBehind[U any](t *testing.T, k kind[U]) {
	r := dice()
	room := k.width - k.rate
	for _, size := range []int{room + 1, room + 2, k.rate, k.width, k.width + 1, 1000} {
		if size <= room {
			continue
		}
		for _, behind := range [][]U{make([]U, size), k.units(r, size)} {
			s, err := duplex.New(k.permutation, behind...)
			if err != api.ErrArg || s != nil {
				t.Errorf("%s, %d units behind: error %d, and %v", k.name, size, err, s)
			}
		}
	}
}

// P11.1: just beyond what there is room for, by the chapter's numbers.
func TestNewAroundItsEnd(t *testing.T) {
	if s, err := duplex.New(duplex.Keccak(), make([]byte, 64)...); err != api.OK || s == nil {
		t.Errorf("64 bytes: error %d", err)
	}
	if s, err := duplex.New(duplex.Keccak(), make([]byte, 65)...); err != api.ErrArg || s != nil {
		t.Errorf("65 bytes: error %d", err)
	}
	n := field.FromUint64
	if s, err := duplex.New(duplex.Poseidon(), n(1)); err != api.OK || s == nil {
		t.Errorf("an element: error %d", err)
	}
	if s, err := duplex.New(duplex.Poseidon(), n(1), n(2)); err != api.ErrArg || s != nil {
		t.Errorf("two elements: error %d", err)
	}
}

// P11.1: what stands behind is told from what doesn't, and goes on into what is given.
func TestUnlikeBehindUnlikeGiven(t *testing.T) {
	testUnlikeBehind(t, ofBytes())
	testUnlikeBehind(t, ofElements())
}

func testUnlikeBehind[U any](t *testing.T, k kind[U]) {
	r := dice()
	none := k.sponge(t).Squeeze(k.rate)
	for i := range k.width - k.rate {
		behind := make([]U, k.width-k.rate)
		behind[i] = k.unit(r)
		k.expectOther(t, "one unit behind, and none", k.sponge(t, behind...).Squeeze(k.rate), none)
	}
}

// P11.1: the chapter's example 1.
func TestFirstByteOfASpongeThatTookNothing(t *testing.T) {
	s, _ := duplex.New(duplex.Keccak())
	if b := s.Squeeze(1); len(b) != 1 || b[0] != 231 {
		t.Errorf("the first byte: %v", b)
	}
	s, _ = duplex.New(duplex.Keccak())
	s.Absorb()
	if b := s.Squeeze(1); len(b) != 1 || b[0] != 231 {
		t.Errorf("the first byte behind an Absorb of nothing: %v", b)
	}
}
