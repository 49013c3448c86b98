package duplex_test

import (
	"crypto/sha3"
	"math"
	"slices"
	"testing"

	"avouch/duplex"
)

// P11.1: at each edge, behind each of the calls.
func TestAbsorb(t *testing.T) {
	testAbsorb(t, ofBytes())
	testAbsorb(t, ofElements())
}

func testAbsorb[U any](t *testing.T, k kind[U]) {
	r := dice()
	for _, x := range k.situations(r) {
		for _, n := range k.edges() {
			s, m := k.begun(t, x)
			l := k.units(r, n)
			s.Absorb(l...)
			m.takes(l)
			k.expectLike(t, x.name, s, m)
		}
	}
}

// P11.1: at each edge, behind each of the calls.
func TestSqueeze(t *testing.T) {
	testSqueeze(t, ofBytes())
	testSqueeze(t, ofElements())
}

func testSqueeze[U any](t *testing.T, k kind[U]) {
	for _, x := range k.situations(dice()) {
		for _, n := range k.edges() {
			s, m := k.begun(t, x)
			k.expect(t, x.name, s.Squeeze(n), m.gives(n))
			k.expectLike(t, x.name, s, m)
		}
	}
}

// P11.1: behind each of the calls.
func TestRatchet(t *testing.T) {
	testRatchet(t, ofBytes())
	testRatchet(t, ofElements())
}

func testRatchet[U any](t *testing.T, k kind[U]) {
	for _, x := range k.situations(dice()) {
		s, m := k.begun(t, x)
		for range 2 {
			calls, behind := s.Calls(), k.turned(s.State())[k.rate:]
			s.Ratchet()
			m.ratchet()
			state := s.State()
			k.expect(t, x.name+": the rate", state[:k.rate], make([]U, k.rate))
			k.expect(t, x.name+": behind the rate", state[k.rate:], behind)
			k.expectCalls(t, x.name, s, calls+1)
			k.expectLike(t, x.name, s, m)
		}
	}
}

// P11.1: unit by unit what is taken overwrites the state, and nothing else of it, without a permutation till the rate is full.
func TestAbsorbOverwrites(t *testing.T) {
	testAbsorbOverwrites(t, ofBytes())
	testAbsorbOverwrites(t, ofElements())
}

func testAbsorbOverwrites[U any](t *testing.T, k kind[U]) {
	r := dice()
	s := k.sponge(t, k.unit(r))
	s.Squeeze(1)
	want := s.State()
	for round := range 3 {
		for i := range k.rate {
			if round > 0 && i == 0 {
				want = k.turned(want)
			}
			want[i] = k.unit(r)
			s.Absorb(want[i])
			k.expect(t, "State", s.State(), want)
			k.expectCalls(t, "Absorb", s, 1+round)
		}
	}
}

// P11.1: unit by unit what is given is the state's, without a permutation till the rate is at its end.
func TestSqueezeGivesTheState(t *testing.T) {
	testSqueezeGivesTheState(t, ofBytes())
	testSqueezeGivesTheState(t, ofElements())
}

func testSqueezeGivesTheState[U any](t *testing.T, k kind[U]) {
	r := dice()
	s := k.sponge(t, k.unit(r))
	s.Absorb(k.unit(r))
	want := s.State()
	for round := range 3 {
		want = k.turned(want)
		for i := range k.rate {
			k.expect(t, "Squeeze", s.Squeeze(1), want[i:i+1])
			k.expect(t, "State", s.State(), want)
			k.expectCalls(t, "Squeeze", s, 1+round)
		}
	}
}

// P11.1: a unit that is taken lets the next one that is given be given behind a permutation, from the state's beginning;
// one that is given lets the next one be taken at the beginning, without one.
func TestTakenAndGivenByTurns(t *testing.T) {
	testTakenAndGivenByTurns(t, ofBytes())
	testTakenAndGivenByTurns(t, ofElements())
}

func testTakenAndGivenByTurns[U any](t *testing.T, k kind[U]) {
	r := dice()
	for n := 1; n <= k.rate; n++ {
		s := k.sponge(t)
		want := s.State()
		for i := range 3 {
			l := k.units(r, n)
			copy(want, l)
			s.Absorb(l...)
			k.expect(t, "taken", s.State(), want)
			k.expectCalls(t, "taken", s, i)
			want = k.turned(want)
			k.expect(t, "given", s.Squeeze(1), want[:1])
			k.expectCalls(t, "given", s, i+1)
		}
	}
}

// P11.1: taking nothing lets what is given go on.
func TestAbsorbOfNothing(t *testing.T) {
	testAbsorbOfNothing(t, ofBytes())
	testAbsorbOfNothing(t, ofElements())
}

func testAbsorbOfNothing[U any](t *testing.T, k kind[U]) {
	s, once := k.sponge(t), k.sponge(t)
	var given []U
	for range 2*k.rate + 1 {
		s.Absorb()
		s.Absorb([]U(nil)...)
		s.Absorb([]U{}...)
		given = append(given, s.Squeeze(1)...)
	}
	k.expect(t, "nothing between", given, once.Squeeze(2*k.rate+1))
	k.expectCalls(t, "nothing between", s, 3)
}

// P11.1: of fewer than 1 unit none, whatever was ahead, and nothing is turned.
func TestSqueezeOfNothing(t *testing.T) {
	testSqueezeOfNothing(t, ofBytes())
	testSqueezeOfNothing(t, ofElements())
}

func testSqueezeOfNothing[U any](t *testing.T, k kind[U]) {
	for _, x := range k.situations(dice()) {
		s, m := k.begun(t, x)
		for _, n := range []int{0, -1, -2, -k.rate, -k.width, math.MinInt32, math.MinInt + 1, math.MinInt} {
			if l := s.Squeeze(n); len(l) != 0 {
				t.Errorf("%s, %s: Squeeze(%d) gives %v", k.name, x.name, n, l)
			}
			k.expect(t, x.name, s.State(), m.state)
			k.expectCalls(t, x.name, s, m.calls)
		}
		k.expectLike(t, x.name, s, m)
	}
}

// P11.1: between two Absorbs a Squeeze of nothing moves nothing, either.
func TestSqueezeOfNothingBetweenAbsorbs(t *testing.T) {
	testSqueezeOfNothingBetween(t, ofBytes())
	testSqueezeOfNothingBetween(t, ofElements())
}

func testSqueezeOfNothingBetween[U any](t *testing.T, k kind[U]) {
	l := k.units(dice(), 2*k.rate+1)
	s, m := k.sponge(t), k.model()
	for _, unit := range l {
		s.Squeeze(0)
		s.Absorb(unit)
		s.Squeeze(-1)
	}
	m.takes(l)
	k.expectLike(t, "nothing between", s, m)
}

// P11.1: so many as were asked for.
func TestSqueezeCounts(t *testing.T) {
	testSqueezeCounts(t, ofBytes())
	testSqueezeCounts(t, ofElements())
}

func testSqueezeCounts[U any](t *testing.T, k kind[U]) {
	s := k.sponge(t)
	for n := range 3*k.rate + 2 {
		if l := s.Squeeze(n); len(l) != n {
			t.Errorf("%s: Squeeze(%d) gives %d", k.name, n, len(l))
		}
	}
}

// P11.1: twice, one behind the other, as once; whether taken, or given.
func TestInTwoPieces(t *testing.T) {
	testInTwoPieces(t, ofBytes())
	testInTwoPieces(t, ofElements())
}

func testInTwoPieces[U any](t *testing.T, k kind[U]) {
	r := dice()
	for _, size := range k.edges() {
		l := k.units(r, size)
		for first := range size + 1 {
			taking, m := k.sponge(t), k.model()
			taking.Absorb(l[:first]...)
			taking.Absorb(l[first:]...)
			m.takes(l)
			k.expect(t, "taken", taking.State(), m.state)
			k.expectCalls(t, "taken", taking, m.calls)
			k.expect(t, "taken, and given", taking.Squeeze(1), m.gives(1))

			giving, n := k.sponge(t, l[:min(1, size)]...), k.model(l[:min(1, size)]...)
			k.expect(t, "given", append(giving.Squeeze(first), giving.Squeeze(size-first)...), n.gives(size))
			k.expect(t, "given", giving.State(), n.state)
			k.expectCalls(t, "given", giving, n.calls)
		}
	}
}

// P11.1: one by one as once.
func TestOneByOne(t *testing.T) {
	testOneByOne(t, ofBytes())
	testOneByOne(t, ofElements())
}

func testOneByOne[U any](t *testing.T, k kind[U]) {
	l := k.units(dice(), 3*k.rate+1)
	s, m := k.sponge(t), k.model()
	for _, unit := range l {
		s.Absorb(unit)
	}
	m.takes(l)
	k.expectLike(t, "taken", s, m)
	var given []U
	for range l {
		given = append(given, s.Squeeze(1)...)
	}
	k.expect(t, "given", given, m.gives(len(l)))
	k.expectLike(t, "given", s, m)
}

// P11.1: behind a Ratchet the first unit is taken at the beginning, and the first one given behind a permutation.
func TestPlacesBehindRatchet(t *testing.T) {
	testPlacesBehindRatchet(t, ofBytes())
	testPlacesBehindRatchet(t, ofElements())
}

func testPlacesBehindRatchet[U any](t *testing.T, k kind[U]) {
	r := dice()
	for _, x := range k.situations(r) {
		s, _ := k.begun(t, x)
		s.Ratchet()
		state, calls := s.State(), s.Calls()
		other := s.Clone()
		l := k.units(r, k.rate)
		s.Absorb(l...)
		k.expect(t, x.name+": taken", s.State(), append(slices.Clone(l), state[k.rate:]...))
		k.expectCalls(t, x.name+": taken", s, calls)
		k.expect(t, x.name+": given", other.Squeeze(k.rate), k.turned(state)[:k.rate])
		k.expectCalls(t, x.name+": given", other, calls+1)
	}
}

// P11.1: of bytes that are filled up as SHAKE256 does, whose rate is 136 bytes as well, its bytes are given.
func TestSpongeOfBytesAgainstTheLibrary(t *testing.T) {
	r := dice()
	for _, size := range []int{0, 1, 2, 134, 135, 136, 137, 271, 272, 273, 500} {
		message := make([]byte, size)
		r.Read(message)
		filled := append(slices.Clone(message), 0x1F)
		for len(filled)%136 != 0 {
			filled = append(filled, 0)
		}
		filled[len(filled)-1] ^= 0x80
		s, _ := duplex.New(duplex.Keccak())
		for i := 0; i < len(filled); i += 136 {
			block := filled[i : i+136]
			if i > 0 {
				// Here a block overwrites the state, there it is xored into it.
				for j, x := range turnedBytes(s.State())[:136] {
					block[j] ^= x
				}
			}
			s.Absorb(block...)
		}
		want := sha3.SumSHAKE256(message, 700)
		ofBytes().expect(t, "SHAKE256", s.Squeeze(700), want)
	}
}
