package duplex_test

import (
	"math/rand"
	"slices"
	"testing"

	"avouch/api"
	"avouch/duplex"
	"avouch/field"
	"avouch/keccak"
	"avouch/matrix"
	"avouch/poseidon"
)

// dice always fall alike, so that a test that fails once fails again.
func dice() *rand.Rand { return rand.New(rand.NewSource(11)) }

// kind is what the tests know of a permutation by themselves.
type kind[U any] struct {
	name        string
	permutation duplex.Permutation[U]
	width, rate int
	// turned gives a state, turned by the layer below.
	turned func(state []U) []U
	// unit gives any unit but the zero one.
	unit func(r *rand.Rand) U
	same func(a, b U) bool
}

func ofBytes() kind[byte] {
	return kind[byte]{
		name: "Keccak", permutation: duplex.Keccak(), width: 200, rate: 136,
		turned: turnedBytes,
		unit:   func(r *rand.Rand) byte { return byte(1 + r.Intn(255)) },
		same:   func(a, b byte) bool { return a == b },
	}
}

func ofElements() kind[field.Element] {
	p := poseidon.New()
	return kind[field.Element]{
		name: "Poseidon", permutation: duplex.Poseidon(), width: 3, rate: 2,
		turned: func(state []field.Element) []field.Element {
			v := p.Permute(matrix.Vector{state[0], state[1], state[2]})
			return v[:]
		},
		unit: anyElement,
		same: field.Element.Equal,
	}
}

func turnedBytes(state []byte) []byte {
	s, err := keccak.OfBytes(state)
	if err != api.OK {
		panic("no state")
	}
	b := s.Permute().Bytes()
	return b[:]
}

func anyElement(r *rand.Rand) field.Element {
	b := make([]byte, 40)
	r.Read(b)
	return field.FromWide(b)
}

func (k kind[U]) units(r *rand.Rand, n int) []U {
	out := make([]U, n)
	for i := range out {
		out[i] = k.unit(r)
	}
	return out
}

func (k kind[U]) sponge(t *testing.T, behind ...U) *duplex.Sponge[U] {
	t.Helper()
	s, err := duplex.New(k.permutation, behind...)
	if err != api.OK || s == nil {
		t.Fatalf("%s: no sponge of %d units behind: error %d", k.name, len(behind), err)
	}
	return s
}

func (k kind[U]) expect(t *testing.T, what string, got, want []U) {
	t.Helper()
	if !slices.EqualFunc(got, want, k.same) {
		t.Errorf("%s, %s: %v, wanted %v", k.name, what, got, want)
	}
}

func (k kind[U]) expectOther(t *testing.T, what string, got, other []U) {
	t.Helper()
	if slices.EqualFunc(got, other, k.same) {
		t.Errorf("%s, %s: both are %v", k.name, what, got)
	}
}

func (k kind[U]) expectCalls(t *testing.T, what string, s *duplex.Sponge[U], want int) {
	t.Helper()
	if got := s.Calls(); got != want {
		t.Errorf("%s, %s: %d Calls, wanted %d", k.name, what, got, want)
	}
}

// expectLike holds a sponge against the model: by its State and Calls, and by what copies of both do next, which tells
// their places.
func (k kind[U]) expectLike(t *testing.T, what string, s *duplex.Sponge[U], m *model[U]) {
	t.Helper()
	k.expect(t, what+": State", s.State(), m.state)
	k.expectCalls(t, what, s, m.calls)
	for _, next := range []func(s *duplex.Sponge[U], m *model[U]){
		func(s *duplex.Sponge[U], m *model[U]) {
			k.expect(t, what+": Squeeze next", s.Squeeze(k.rate+1), m.gives(k.rate+1))
		},
		func(s *duplex.Sponge[U], m *model[U]) {
			l := k.units(dice(), k.rate+1)
			s.Absorb(l...)
			m.takes(l)
		},
	} {
		c, n := s.Clone(), m.copied()
		next(c, n)
		k.expect(t, what+": State next", c.State(), n.state)
		k.expectCalls(t, what+": next", c, n.calls)
	}
}

// edges are numbers of units about the rate and its multiples.
func (k kind[U]) edges() []int {
	out := []int{0, 1, 2, k.rate - 1, k.rate, k.rate + 1, 2*k.rate - 1, 2 * k.rate, 2*k.rate + 1, 3 * k.rate, 3*k.rate + 1}
	slices.Sort(out)
	return slices.Compact(out)
}

// model does what the chapter's words say, one unit after the other.
type model[U any] struct {
	kind  kind[U]
	state []U
	a, b  int
	calls int
}

func (k kind[U]) model(behind ...U) *model[U] {
	m := &model[U]{kind: k, state: make([]U, k.width), b: k.rate}
	for i, unit := range behind {
		m.state[k.rate+i] = unit
	}
	return m
}

func (m *model[U]) copied() *model[U] {
	return &model[U]{kind: m.kind, state: slices.Clone(m.state), a: m.a, b: m.b, calls: m.calls}
}

func (m *model[U]) permute() {
	m.state = m.kind.turned(m.state)
	m.calls++
}

func (m *model[U]) takes(l []U) {
	for _, unit := range l {
		if m.a == m.kind.rate {
			m.permute()
			m.a = 0
		}
		m.state[m.a] = unit
		m.a++
		m.b = m.kind.rate
	}
}

func (m *model[U]) gives(n int) []U {
	var out []U
	for ; n > 0; n-- {
		if m.b == m.kind.rate {
			m.permute()
			m.a, m.b = 0, 0
		}
		out = append(out, m.state[m.b])
		m.b++
	}
	return out
}

func (m *model[U]) ratchet() {
	m.permute()
	var zero U
	for i := range m.kind.rate {
		m.state[i] = zero
	}
	m.a, m.b = 0, m.kind.rate
}

// situation is what a sponge, and the model, went through ahead of a call.
type situation[U any] struct {
	name   string
	behind []U
	did    func(s *duplex.Sponge[U], m *model[U])
}

// situations bring about places at the edges, one by one, by each call.
func (k kind[U]) situations(r *rand.Rand) []situation[U] {
	out := []situation[U]{
		{"new", nil, func(*duplex.Sponge[U], *model[U]) {}},
		{"new, with all behind", k.units(r, k.width-k.rate), func(*duplex.Sponge[U], *model[U]) {}},
		{"behind a Ratchet", k.units(r, 1), func(s *duplex.Sponge[U], m *model[U]) { s.Ratchet(); m.ratchet() }},
		{"behind two Ratchets", nil, func(s *duplex.Sponge[U], m *model[U]) {
			s.Ratchet()
			s.Ratchet()
			m.ratchet()
			m.ratchet()
		}},
	}
	for _, n := range k.edges() {
		l := k.units(r, n)
		absorb := func(s *duplex.Sponge[U], m *model[U]) { s.Absorb(l...); m.takes(l) }
		squeeze := func(s *duplex.Sponge[U], m *model[U]) { s.Squeeze(n); m.gives(n) }
		ratchet := func(s *duplex.Sponge[U], m *model[U]) { s.Ratchet(); m.ratchet() }
		one := k.unit(r)
		takeOne := func(s *duplex.Sponge[U], m *model[U]) { s.Absorb(one); m.takes([]U{one}) }
		giveOne := func(s *duplex.Sponge[U], m *model[U]) { s.Squeeze(1); m.gives(1) }
		out = append(out,
			situation[U]{"behind an Absorb", k.units(r, 1), absorb},
			situation[U]{"behind a Squeeze", k.units(r, 1), squeeze},
			situation[U]{"behind an Absorb and a Squeeze of one", nil, both(absorb, giveOne)},
			situation[U]{"behind a Squeeze and an Absorb of one", nil, both(squeeze, takeOne)},
			situation[U]{"behind an Absorb of one and a Squeeze", nil, both(takeOne, squeeze)},
			situation[U]{"behind a Squeeze of one and an Absorb", nil, both(giveOne, absorb)},
			situation[U]{"behind an Absorb and a Ratchet", nil, both(absorb, ratchet)},
			situation[U]{"behind a Squeeze and a Ratchet", nil, both(squeeze, ratchet)},
			situation[U]{"behind a Ratchet and an Absorb", nil, both(ratchet, absorb)},
			situation[U]{"behind a Ratchet and a Squeeze", nil, both(ratchet, squeeze)},
		)
	}
	return out
}

func both[U any](one, other func(s *duplex.Sponge[U], m *model[U])) func(s *duplex.Sponge[U], m *model[U]) {
	return func(s *duplex.Sponge[U], m *model[U]) {
		one(s, m)
		other(s, m)
	}
}

// begun gives a sponge, and the model, that went through a situation.
func (k kind[U]) begun(t *testing.T, x situation[U]) (*duplex.Sponge[U], *model[U]) {
	t.Helper()
	s, m := k.sponge(t, x.behind...), k.model(x.behind...)
	x.did(s, m)
	return s, m
}

// ceiling gives n, divided by rate, rounded up; 0 of fewer than 1.
func ceiling(n, rate int) int { return (max(n, 0) + rate - 1) / rate }
