package tag_test

import (
	"math/rand"
	"slices"
	"testing"

	"avouch/api"
	"avouch/duplex"
	"avouch/field"
	"avouch/tag"
)

// kind is what the tests know of a backend's sponges by themselves.
type kind[U any] struct {
	name        string
	rate        int
	permutation duplex.Permutation[U]
	// begin is the call that is tested.
	begin func(t [32]byte) *duplex.Sponge[U]
	// behind gives what a tag brings behind the rate, without the zeros behind that.
	behind func(t [32]byte) []U
	unit   func(r *rand.Rand) U
	same   func(a, b U) bool
}

func ofBytes() kind[byte] {
	return kind[byte]{
		name: "OfBytes", rate: 136, permutation: duplex.Keccak(), begin: tag.OfBytes,
		behind: func(t [32]byte) []byte { return slices.Clone(t[:]) },
		unit:   func(r *rand.Rand) byte { return byte(r.Intn(256)) },
		same:   func(a, b byte) bool { return a == b },
	}
}

func ofFields() kind[field.Element] {
	return kind[field.Element]{
		name: "OfFields", rate: 2, permutation: duplex.Poseidon(), begin: tag.OfFields,
		behind: func(t [32]byte) []field.Element { return []field.Element{field.FromWide(t[:])} },
		unit:   func(r *rand.Rand) field.Element { return field.FromUint64(r.Uint64()) },
		same:   field.Element.Equal,
	}
}

func (k kind[U]) units(r *rand.Rand, n int) []U {
	out := make([]U, n)
	for i := range out {
		out[i] = k.unit(r)
	}
	return out
}

func (k kind[U]) expect(t *testing.T, what string, got, want []U) {
	t.Helper()
	if !slices.EqualFunc(got, want, k.same) {
		t.Errorf("%s, %s: %v, wanted %v", k.name, what, got, want)
	}
}

// layerBelow gives layer 11's sponge with a tag's units behind the rate.
func (k kind[U]) layerBelow(t *testing.T, b [32]byte) *duplex.Sponge[U] {
	t.Helper()
	s, err := duplex.New(k.permutation, k.behind(b)...)
	if err != api.OK {
		t.Fatal("error", err)
	}
	return s
}

// alike looks that two sponges give the same, and have the same State and Calls, whatever is done next.
func (k kind[U]) alike(t *testing.T, what string, one, other *duplex.Sponge[U]) {
	t.Helper()
	r := dice()
	some := k.units(r, k.rate)
	for name, next := range map[string]func(s *duplex.Sponge[U]) []U{
		"nothing":       func(s *duplex.Sponge[U]) []U { return nil },
		"gives none":    func(s *duplex.Sponge[U]) []U { return s.Squeeze(0) },
		"gives one":     func(s *duplex.Sponge[U]) []U { return s.Squeeze(1) },
		"gives many":    func(s *duplex.Sponge[U]) []U { return s.Squeeze(2*k.rate + 1) },
		"takes none":    func(s *duplex.Sponge[U]) []U { s.Absorb(); return nil },
		"takes one":     func(s *duplex.Sponge[U]) []U { s.Absorb(some[0]); return s.Squeeze(k.rate + 1) },
		"takes a rate":  func(s *duplex.Sponge[U]) []U { s.Absorb(some...); return s.Squeeze(k.rate) },
		"takes more":    func(s *duplex.Sponge[U]) []U { s.Absorb(append(some, some[0])...); return s.Squeeze(1) },
		"ratchets":      func(s *duplex.Sponge[U]) []U { s.Ratchet(); return s.Squeeze(1) },
		"ratchets only": func(s *duplex.Sponge[U]) []U { s.Ratchet(); return nil },
	} {
		a, b := one.Clone(), other.Clone()
		got, want := next(a), next(b)
		k.expect(t, what+", "+name, got, want)
		k.expect(t, what+", "+name+", State", a.State(), b.State())
		if a.Calls() != b.Calls() {
			t.Errorf("%s, %s, %s: %d Calls, wanted %d", k.name, what, name, a.Calls(), b.Calls())
		}
	}
}

// P14.2: the state is zeros to the rate, then what the tag brings, then zeros; it was permuted never.
func TestStateAtTheBeginning(t *testing.T) {
	testState(t, ofBytes())
	testState(t, ofFields())
}

func testState[U any](t *testing.T, k kind[U]) {
	for _, b := range allTags() {
		want := make([]U, k.permutation.Width())
		copy(want[k.rate:], k.behind(b))
		s := k.begin(b)
		k.expect(t, "State", s.State(), want)
		if s.Calls() != 0 {
			t.Errorf("%s: %d Calls", k.name, s.Calls())
		}
	}
}

// P14.2: byte by byte, and element by element, as the chapter has them.
func TestStatesAreWhatTheyAre(t *testing.T) {
	for _, b := range allTags() {
		s := tag.OfBytes(b).State()
		if len(s) != 200 || string(s[:136]) != string(make([]byte, 136)) || string(s[136:168]) != string(b[:]) || string(s[168:]) != string(make([]byte, 32)) {
			t.Errorf("OfBytes: %x", s)
		}
		n := number(b)
		f := tag.OfFields(b).State()
		if len(f) != 3 || !f[0].IsZero() || !f[1].IsZero() || f[2].Bytes() != low(n.Mod(n, prime())) || !f[2].Equal(tag.Element(b)) {
			t.Errorf("OfFields: %v", f)
		}
	}
}

// P14.2: what a sponge gives first is the rate of its state, permuted.
func TestFirstUnits(t *testing.T) {
	testFirstUnits(t, ofBytes())
	testFirstUnits(t, ofFields())
}

func testFirstUnits[U any](t *testing.T, k kind[U]) {
	for _, b := range allTags()[:20] {
		want := make([]U, k.permutation.Width())
		copy(want[k.rate:], k.behind(b))
		k.permutation.Permute(want)
		s := k.begin(b)
		k.expect(t, "the first units", s.Squeeze(k.rate), want[:k.rate])
		if s.Calls() != 1 {
			t.Errorf("%s: %d Calls behind the first units", k.name, s.Calls())
		}
	}
}

// P14.2: a sponge gives, takes and ratchets as layer 11's with the same units behind.
func TestGoesOnAsLayer11s(t *testing.T) {
	testGoesOn(t, ofBytes())
	testGoesOn(t, ofFields())
}

func testGoesOn[U any](t *testing.T, k kind[U]) {
	all := allTags()
	for _, b := range append(all[:8], all[len(all)-4:]...) {
		k.alike(t, "at the beginning", k.begin(b), k.layerBelow(t, b))
	}
}

// P14.2: so through a long run of calls.
func TestLongRuns(t *testing.T) {
	testLongRuns(t, ofBytes())
	testLongRuns(t, ofFields())
}

func testLongRuns[U any](t *testing.T, k kind[U]) {
	r := dice()
	for _, b := range [][32]byte{{}, {5}, about(0), about(-1)} {
		s, other := k.begin(b), k.layerBelow(t, b)
		for range 60 {
			switch n := r.Intn(2 * k.rate); r.Intn(3) {
			case 0:
				l := k.units(r, n)
				s.Absorb(l...)
				other.Absorb(l...)
			case 1:
				k.expect(t, "a long run", s.Squeeze(n), other.Squeeze(n))
			case 2:
				s.Ratchet()
				other.Ratchet()
			}
			k.expect(t, "a long run's State", s.State(), other.State())
		}
		k.alike(t, "behind a long run", s, other)
	}
}

// P14.2: unlike tags begin unlike sponges, also where they differ at one place alone.
func TestUnlikeTagsUnlikeSponges(t *testing.T) {
	testUnlike(t, ofBytes())
	testUnlike(t, ofFields())
}

func testUnlike[U any](t *testing.T, k kind[U]) {
	zero := k.begin([32]byte{}).Squeeze(k.rate)
	for i := range 32 {
		var b [32]byte
		b[i] = 1
		if slices.EqualFunc(k.begin(b).Squeeze(k.rate), zero, k.same) {
			t.Errorf("%s: a byte at %d gives what zeros give", k.name, i)
		}
	}
}

// P14.2: two sponges of one tag go on apart from each other.
func TestTwoSpongesOfOneTag(t *testing.T) {
	testTwo(t, ofBytes())
	testTwo(t, ofFields())
}

func testTwo[U any](t *testing.T, k kind[U]) {
	for _, b := range allTags()[:5] {
		some := k.units(dice(), k.rate+1)
		for _, first := range []func(s *duplex.Sponge[U]){
			func(s *duplex.Sponge[U]) { s.Absorb(some...) },
			func(s *duplex.Sponge[U]) { s.Squeeze(k.rate + 1) },
			func(s *duplex.Sponge[U]) { s.Ratchet() },
			func(s *duplex.Sponge[U]) { clear(s.State()) },
		} {
			one, other, below := k.begin(b), k.begin(b), k.layerBelow(t, b)
			first(one)
			k.alike(t, "the other one", other, below)
			first(below)
			k.alike(t, "the first one", one, below)
		}
	}
}
