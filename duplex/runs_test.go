package duplex_test

import (
	"math/rand"
	"slices"
	"sync"
	"testing"

	"avouch/duplex"
)

// lot is a number of units, often at an edge.
func (k kind[U]) lot(r *rand.Rand) int {
	if r.Intn(2) == 0 {
		return k.edges()[r.Intn(len(k.edges()))]
	}
	return r.Intn(3*k.rate+3) - 1
}

// P11.1, P11.2 and P11.3: State and Calls behind each of many calls, and how many permutations each of them takes.
func TestRuns(t *testing.T) {
	testRuns(t, ofBytes())
	testRuns(t, ofElements())
}

func testRuns[U any](t *testing.T, k kind[U]) {
	r := dice()
	for range 60 {
		behind := k.units(r, r.Intn(k.width-k.rate+1))
		s, m := k.sponge(t, behind...), k.model(behind...)
		for range 40 {
			n, calls, atMost := k.lot(r), s.Calls(), 1
			switch r.Intn(5) {
			case 0, 1:
				l := k.units(r, max(n, 0))
				s.Absorb(l...)
				m.takes(l)
				atMost = ceiling(n, k.rate)
			case 2, 3:
				k.expect(t, "Squeeze", s.Squeeze(n), m.gives(n))
				atMost = ceiling(n, k.rate)
			default:
				s.Ratchet()
				m.ratchet()
			}
			k.expect(t, "State", s.State(), m.state)
			k.expectCalls(t, "a run", s, m.calls)
			if got := s.Calls() - calls; got > atMost || got < 0 {
				t.Errorf("%s: %d units take %d permutations", k.name, n, got)
			}
		}
	}
}

// P11.3: at each edge, behind each of the calls.
func TestCallsAtMost(t *testing.T) {
	testCallsAtMost(t, ofBytes())
	testCallsAtMost(t, ofElements())
}

func testCallsAtMost[U any](t *testing.T, k kind[U]) {
	r := dice()
	for _, x := range k.situations(r) {
		for _, n := range k.edges() {
			taking, _ := k.begun(t, x)
			giving, before := taking.Clone(), taking.Calls()
			taking.Absorb(k.units(r, n)...)
			if got := taking.Calls() - before; got < 0 || got > ceiling(n, k.rate) {
				t.Errorf("%s, %s: taking %d units permutes %d times", k.name, x.name, n, got)
			}
			giving.Squeeze(n)
			if got := giving.Calls() - before; got < 0 || got > ceiling(n, k.rate) {
				t.Errorf("%s, %s: giving %d units permutes %d times", k.name, x.name, n, got)
			}
			before = giving.Calls()
			giving.Ratchet()
			k.expectCalls(t, x.name+": a Ratchet", giving, before+1)
		}
	}
}

// P11.3: just as many, of a new sponge: what it takes first needs no permutation, and what it gives first needs one.
func TestCallsOfANewSponge(t *testing.T) {
	testCallsOfANewSponge(t, ofBytes())
	testCallsOfANewSponge(t, ofElements())
}

func testCallsOfANewSponge[U any](t *testing.T, k kind[U]) {
	for n := range 3*k.rate + 2 {
		s := k.sponge(t)
		s.Absorb(make([]U, n)...)
		k.expectCalls(t, "taken", s, max(ceiling(n, k.rate)-1, 0))
		s = k.sponge(t)
		s.Squeeze(n)
		k.expectCalls(t, "given", s, ceiling(n, k.rate))
	}
}

// P11.1 and P11.2: many units at once, and many permutations.
func TestManyUnits(t *testing.T) {
	testManyUnits(t, ofBytes())
	testManyUnits(t, ofElements())
}

func testManyUnits[U any](t *testing.T, k kind[U]) {
	s, m := k.sponge(t), k.model()
	l := k.units(dice(), 1030*k.rate+1)
	s.Absorb(l...)
	m.takes(l)
	k.expectCalls(t, "taken", s, 1030)
	k.expectLike(t, "taken", s, m)
	k.expect(t, "given", s.Squeeze(len(l)), m.gives(len(l)))
	k.expectCalls(t, "given", s, 2061)
	k.expectLike(t, "given", s, m)
}

// K5: what is handed in, and what stands behind it in its list, is as it was, and isn't kept.
func TestUnitsAreNeitherChangedNorKept(t *testing.T) {
	testUnitsAreNeitherChangedNorKept(t, ofBytes())
	testUnitsAreNeitherChangedNorKept(t, ofElements())
}

func testUnitsAreNeitherChangedNorKept[U any](t *testing.T, k kind[U]) {
	r := dice()
	for size := range k.width - k.rate + 1 {
		room := k.units(r, size+2*k.width)
		was := slices.Clone(room)
		s, m := k.sponge(t, room[:size]...), k.model(was[:size]...)
		k.expect(t, "behind New", room, was)
		clear(room)
		k.expectLike(t, "New, and a change", s, m)
	}
	for _, n := range k.edges() {
		room := k.units(r, n+2*k.width)
		was := slices.Clone(room)
		s, m := k.sponge(t), k.model()
		s.Absorb(room[:n]...)
		m.takes(was[:n])
		k.expect(t, "behind Absorb", room, was)
		clear(room)
		k.expectLike(t, "Absorb, and a change", s, m)
		s.Squeeze(k.rate + 1)
		s.Ratchet()
		k.expect(t, "behind more calls", room, make([]U, len(room)))
	}
}

// K5: what was answered may be changed, and appended to, and isn't changed by later calls.
func TestAnswersAreNew(t *testing.T) {
	testAnswersAreNew(t, ofBytes())
	testAnswersAreNew(t, ofElements())
}

func testAnswersAreNew[U any](t *testing.T, k kind[U]) {
	r := dice()
	for _, x := range k.situations(r) {
		s, m := k.begun(t, x)
		state, again, given := s.State(), s.State(), s.Squeeze(k.rate)
		stateWas, givenWas := slices.Clone(state), slices.Clone(given)
		m.gives(k.rate)
		s.Absorb(k.units(dice(), k.rate)...)
		m.takes(k.units(dice(), k.rate))
		s.Ratchet()
		m.ratchet()
		k.expect(t, x.name+": an old State", state, stateWas)
		k.expect(t, x.name+": what was given once", given, givenWas)
		behind := s.State()
		clear(behind)
		clear(given)
		clear(state)
		clear(append(behind, k.units(r, k.width)...)[:k.width])
		k.expect(t, x.name+": another State of the same", again, stateWas)
		k.expectLike(t, x.name+": behind changes", s, m)
	}
}

// K6: the same calls give the same answers, of permutations that are made anew, and by turns.
func TestSameCallsSameAnswers(t *testing.T) {
	testSameCallsSameAnswers(t, ofBytes(), ofBytes())
	testSameCallsSameAnswers(t, ofElements(), ofElements())
}

func testSameCallsSameAnswers[U any](t *testing.T, one, other kind[U]) {
	r := dice()
	for range 30 {
		behind := one.units(r, r.Intn(one.width-one.rate+1))
		a, b := one.sponge(t, behind...), other.sponge(t, behind...)
		c := one.sponge(t)
		for range 10 {
			l, n := one.units(r, r.Intn(2*one.rate)), one.lot(r)
			a.Absorb(l...)
			b.Absorb(l...)
			// Another one of the same permutation changes nothing.
			c.Absorb(l...)
			c.Squeeze(1)
			one.expect(t, "Squeeze", a.Squeeze(n), b.Squeeze(n))
			if r.Intn(3) == 0 {
				a.Ratchet()
				b.Ratchet()
			}
			one.expect(t, "State", a.State(), b.State())
			one.expectCalls(t, "the same calls", a, b.Calls())
		}
	}
}

// K6: asking for State and Calls, and cloning, moves nothing.
func TestAskingMovesNothing(t *testing.T) {
	testAskingMovesNothing(t, ofBytes())
	testAskingMovesNothing(t, ofElements())
}

func testAskingMovesNothing[U any](t *testing.T, k kind[U]) {
	for _, x := range k.situations(dice()) {
		s, m := k.begun(t, x)
		for range 3 {
			s.State()
			s.Calls()
			s.Clone()
			k.expect(t, x.name, s.State(), m.state)
			k.expectCalls(t, x.name, s, m.calls)
		}
		k.expectLike(t, x.name, s, m)
	}
}

// K6: several sponges of one new permutation, at the same time.
func TestAtTheSameTime(t *testing.T) {
	testAtTheSameTime(t, ofBytes())
	testAtTheSameTime(t, ofElements())
}

func testAtTheSameTime[U any](t *testing.T, k kind[U]) {
	want := k.model().gives(2*k.rate + 1)
	var given [8][]U
	var all sync.WaitGroup
	s := k.sponge(t)
	for i := range given {
		c := s.Clone()
		if i%2 == 0 {
			c = k.sponge(t)
		}
		all.Go(func() { given[i] = c.Squeeze(2*k.rate + 1) })
	}
	all.Wait()
	for _, l := range given {
		k.expect(t, "at the same time", l, want)
	}
}

// P11.1: whatever differs in what was taken, or in how it was cut by what was given, goes on into what is given.
func TestUnlikeTakenUnlikeGiven(t *testing.T) {
	testUnlikeTakenUnlikeGiven(t, ofBytes())
	testUnlikeTakenUnlikeGiven(t, ofElements())
}

func testUnlikeTakenUnlikeGiven[U any](t *testing.T, k kind[U]) {
	r := dice()
	l := k.units(r, 2*k.rate+1)
	given := func(change int) []U {
		m := slices.Clone(l)
		if change >= 0 {
			var zero U
			m[change] = zero
		}
		s := k.sponge(t)
		s.Absorb(m...)
		return s.Squeeze(k.rate)
	}
	first := given(-1)
	for i := range l {
		// What was overwritten ahead of it goes on by what stands behind the rate.
		k.expectOther(t, "one unit changed", given(i), first)
	}
}

// P11.1: what was taken can't be told from the rate's units behind a Ratchet, and yet goes on.
func TestRatchetGoesOn(t *testing.T) {
	testRatchetGoesOn(t, ofBytes())
	testRatchetGoesOn(t, ofElements())
}

func testRatchetGoesOn[U any](t *testing.T, k kind[U]) {
	r := dice()
	ratcheted := func(l ...U) *duplex.Sponge[U] {
		s := k.sponge(t)
		s.Absorb(l...)
		s.Ratchet()
		return s
	}
	one, other := ratcheted(k.unit(r)), ratcheted()
	k.expect(t, "the rate", one.State()[:k.rate], other.State()[:k.rate])
	k.expectOther(t, "behind the rate", one.State()[k.rate:], other.State()[k.rate:])
	k.expectOther(t, "what is given", one.Squeeze(k.rate), other.Squeeze(k.rate))
}
