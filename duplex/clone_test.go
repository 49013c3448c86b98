package duplex_test

import (
	"testing"

	"avouch/duplex"
)

// P11.2: behind each of the calls a clone has the same State, Calls and places.
func TestClone(t *testing.T) {
	testClone(t, ofBytes())
	testClone(t, ofElements())
}

func testClone[U any](t *testing.T, k kind[U]) {
	for _, x := range k.situations(dice()) {
		s, m := k.begun(t, x)
		c := s.Clone()
		if c == nil || c == s {
			t.Fatalf("%s, %s: no clone, or the sponge itself", k.name, x.name)
		}
		k.expect(t, x.name+": State", c.State(), s.State())
		k.expectCalls(t, x.name, c, s.Calls())
		k.expectLike(t, x.name+": the clone", c, m)
		k.expectLike(t, x.name+": the sponge", s, m)
	}
}

// goesOn are calls that tell all of a sponge's places.
func (k kind[U]) goesOn() []func(s *duplex.Sponge[U], m *model[U]) ([]U, []U) {
	r := dice()
	some := k.units(r, k.rate+1)
	return []func(s *duplex.Sponge[U], m *model[U]) ([]U, []U){
		func(s *duplex.Sponge[U], m *model[U]) ([]U, []U) { return s.Squeeze(1), m.gives(1) },
		func(s *duplex.Sponge[U], m *model[U]) ([]U, []U) {
			return s.Squeeze(2*k.rate + 1), m.gives(2*k.rate + 1)
		},
		func(s *duplex.Sponge[U], m *model[U]) ([]U, []U) {
			s.Absorb(some[0])
			m.takes(some[:1])
			return nil, nil
		},
		func(s *duplex.Sponge[U], m *model[U]) ([]U, []U) {
			s.Absorb(some...)
			m.takes(some)
			return nil, nil
		},
		func(s *duplex.Sponge[U], m *model[U]) ([]U, []U) {
			s.Ratchet()
			m.ratchet()
			return nil, nil
		},
	}
}

// P11.2: whichever goes on first, by whichever call, the other one stays, and then goes on as if it were alone.
func TestCloneGoesOnByItself(t *testing.T) {
	testCloneGoesOnByItself(t, ofBytes())
	testCloneGoesOnByItself(t, ofElements())
}

func testCloneGoesOnByItself[U any](t *testing.T, k kind[U]) {
	for _, x := range k.situations(dice()) {
		for _, first := range k.goesOn() {
			for _, second := range k.goesOn() {
				for _, cloneFirst := range []bool{false, true} {
					s, m := k.begun(t, x)
					other, n := s.Clone(), m.copied()
					if cloneFirst {
						s, other = other, s
					}
					got, want := first(s, m)
					k.expect(t, x.name+": the first one gives", got, want)
					k.expect(t, x.name+": the second one's State", other.State(), n.state)
					k.expectCalls(t, x.name+": the second one", other, n.calls)
					got, want = second(other, n)
					k.expect(t, x.name+": the second one gives", got, want)
					k.expect(t, x.name+": the second one's State", other.State(), n.state)
					k.expectCalls(t, x.name+": the second one", other, n.calls)
					k.expect(t, x.name+": the first one's State", s.State(), m.state)
					k.expectCalls(t, x.name+": the first one", s, m.calls)
				}
			}
		}
	}
}

// P11.2: a clone of a clone, and many of one.
func TestClonesOfClones(t *testing.T) {
	testClonesOfClones(t, ofBytes())
	testClonesOfClones(t, ofElements())
}

func testClonesOfClones[U any](t *testing.T, k kind[U]) {
	r := dice()
	sponges, models := []*duplex.Sponge[U]{k.sponge(t)}, []*model[U]{k.model()}
	for range 60 {
		i := r.Intn(len(sponges))
		sponges, models = append(sponges, sponges[i].Clone()), append(models, models[i].copied())
		for j := range sponges {
			calls := k.goesOn()
			got, want := calls[r.Intn(len(calls))](sponges[j], models[j])
			k.expect(t, "what a clone gives", got, want)
		}
	}
	for j := range sponges {
		k.expect(t, "State", sponges[j].State(), models[j].state)
		k.expectCalls(t, "a clone", sponges[j], models[j].calls)
	}
}
