package calc_test

import (
	"slices"
	"testing"

	"avouch/api"
	"avouch/calc"
	"avouch/field"
)

const top = 1<<64 - 1

// step gives one whose Op takes no number.
func step(op int) calc.Step { return calc.Step{Op: op} }

func push(n uint64) calc.Step { return calc.Step{Op: calc.Push, N: n} }

func copyOf(n uint64) calc.Step { return calc.Step{Op: calc.Copy, N: n} }

// stackOf gives a stack of small numbers: one below 0 stands for the opposite of what it is less.
func stackOf(l ...int64) []field.Element {
	out := []field.Element{}
	for _, n := range l {
		if n < 0 {
			out = append(out, field.FromUint64(uint64(-n)).Neg())
		} else {
			out = append(out, field.FromUint64(uint64(n)))
		}
	}
	return out
}

// rising gives a stack of 1, 2, 3 and so on.
func rising(depth int) []field.Element {
	out := []field.Element{}
	for i := range depth {
		out = append(out, field.FromUint64(uint64(i)+1))
	}
	return out
}

func alike(a, b []field.Element) bool { return slices.EqualFunc(a, b, field.Element.Equal) }

// run runs steps, and tells if what was handed in has changed, also behind its end.
func run(t *testing.T, l []calc.Step, stack []field.Element) ([]field.Element, int, api.Errno) {
	t.Helper()
	marker, room := field.FromUint64(77), make([]field.Element, len(stack)+calc.MaxDepth+2)
	for i := range room {
		room[i] = marker
	}
	copy(room, stack)
	kept, steps := slices.Clone(room), slices.Clone(l)
	got, place, err := calc.Run(l, room[:len(stack)])
	if !alike(room, kept) {
		t.Errorf("%v: the stack that was handed in has changed", l)
	}
	if !slices.Equal(l, steps) {
		t.Errorf("%v: the steps that were handed in have changed: %v", steps, l)
	}
	return got, place, err
}

// done expects that all steps are done, and what is on the stack then.
func done(t *testing.T, what string, l []calc.Step, stack, want []field.Element) {
	t.Helper()
	got, place, err := run(t, l, stack)
	if place != -1 || err != api.OK {
		t.Errorf("%s: error %d at %d", what, err, place)
	} else if !alike(got, want) {
		t.Errorf("%s: %v, wanted %v", what, told(got), told(want))
	}
}

// refused expects an error, at a place, and no stack beside it.
func refused(t *testing.T, what string, l []calc.Step, stack []field.Element, place int, err api.Errno) {
	t.Helper()
	got, at, e := run(t, l, stack)
	if len(got) != 0 || at != place || e != err {
		t.Errorf("%s: %d elements, error %d at %d, wanted error %d at %d", what, len(got), e, at, err, place)
	}
}

func told(stack []field.Element) [][api.FieldBytes]byte {
	out := [][api.FieldBytes]byte{}
	for _, e := range stack {
		out = append(out, e.Bytes())
	}
	return out
}
