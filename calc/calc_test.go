package calc_test

import (
	"strconv"
	"testing"

	"avouch/api"
	"avouch/calc"
	"avouch/field"
)

func name(op int) string { return "Op " + strconv.Itoa(op) }

// needs tells how deep a stack must be, by Op, as the chapter's table says.
func needs() []int { return []int{0, 2, 2, 2, 1, 1, 1, 1, 2, 1, 2} }

// Types: Ops have the numbers that the chapter gives them.
func TestNumbers(t *testing.T) {
	got := [...]int{
		calc.Push, calc.Add, calc.Sub, calc.Mul, calc.Neg, calc.Square, calc.Inverse, calc.Copy, calc.Swap, calc.Drop,
		calc.Same, calc.MaxDepth,
	}
	if got != [...]int{0, 1, 2, 3, 4, 5, 6, 7, 8, 9, 10, 64} {
		t.Error(got)
	}
}

// P3.1: each Op, with more below what it takes.
func TestEachOp(t *testing.T) {
	for _, x := range []struct {
		what  string
		l     calc.Step
		stack []field.Element
		want  []field.Element
	}{
		{"Push", push(6), stackOf(9, 8), stackOf(9, 8, 6)},
		{"Add", step(calc.Add), stackOf(9, 8, 3), stackOf(9, 11)},
		{"Add to 0", step(calc.Add), stackOf(9, -3, 3), stackOf(9, 0)},
		{"Sub", step(calc.Sub), stackOf(9, 8, 3), stackOf(9, 5)},
		{"Sub below 0", step(calc.Sub), stackOf(9, 3, 8), stackOf(9, -5)},
		{"Mul", step(calc.Mul), stackOf(9, 8, 3), stackOf(9, 24)},
		{"Mul of opposites", step(calc.Mul), stackOf(9, -8, -3), stackOf(9, 24)},
		{"Neg", step(calc.Neg), stackOf(9, 8), stackOf(9, -8)},
		{"Neg of 0", step(calc.Neg), stackOf(9, 0), stackOf(9, 0)},
		{"Square", step(calc.Square), stackOf(9, -8), stackOf(9, 64)},
		{"Inverse of 0", step(calc.Inverse), stackOf(9, 0), stackOf(9, 0)},
		{"Inverse of 1", step(calc.Inverse), stackOf(9, 1), stackOf(9, 1)},
		{"Inverse of -1", step(calc.Inverse), stackOf(9, -1), stackOf(9, -1)},
		{"Copy", copyOf(1), stackOf(9, 8, 7), stackOf(9, 8, 7, 8)},
		{"Swap", step(calc.Swap), stackOf(9, 8, 7), stackOf(9, 7, 8)},
		{"Drop", step(calc.Drop), stackOf(9, 8), stackOf(9)},
		{"Same", step(calc.Same), stackOf(9, 8, 8), stackOf(9, 1)},
		{"Same of two", step(calc.Same), stackOf(9, 8, 7), stackOf(9, 0)},
		{"Same of opposites", step(calc.Same), stackOf(9, 8, -8), stackOf(9, 0)},
		{"Same of 0 and 0", step(calc.Same), stackOf(9, 0, 0), stackOf(9, 1)},
	} {
		done(t, x.what, []calc.Step{x.l}, x.stack, x.want)
	}
}

// P3.1: what is times its inverse is 1, and the inverse of the inverse is it again.
func TestInverse(t *testing.T) {
	for _, n := range []uint64{2, 3, 5, 1 << 32, top} {
		done(t, "times the inverse", []calc.Step{push(n), step(calc.Copy), step(calc.Inverse), step(calc.Mul)}, nil, stackOf(1))
		twice := []calc.Step{push(n), step(calc.Inverse), step(calc.Inverse), push(n), step(calc.Same)}
		done(t, "twice inverted", twice, nil, stackOf(1))
	}
}

// P3.1: steps are done in order, each with what the one ahead left.
func TestInOrder(t *testing.T) {
	product := []calc.Step{push(3), push(5), step(calc.Mul)}
	done(t, "the chapter's example", product, nil, stackOf(15))
	difference := []calc.Step{push(3), push(5), step(calc.Sub), push(10), step(calc.Mul), step(calc.Neg)}
	done(t, "a difference, times, turned", difference, stackOf(4), stackOf(4, 20))
	swapped := []calc.Step{push(3), push(5), step(calc.Swap), step(calc.Sub)}
	done(t, "swapped, then taken away", swapped, nil, stackOf(2))
}

// P3.1: without steps the stack is what it was, in new memory (K5).
func TestNoSteps(t *testing.T) {
	done(t, "none", nil, nil, nil)
	done(t, "an empty list", []calc.Step{}, []field.Element{}, nil)
	for _, depth := range []int{1, 63, 64} {
		stack := rising(depth)
		done(t, "depth "+strconv.Itoa(depth), nil, stack, stack)
		got, _, _ := calc.Run(nil, stack)
		got[0] = field.FromUint64(1000)
		if !alike(stack, rising(depth)) {
			t.Error("what is answered shares what was handed in")
		}
	}
	refused(t, "65", nil, rising(65), -1, api.ErrMany)
	refused(t, "1000", nil, rising(1000), -1, api.ErrMany)
}

// P3.1, K5: what two runs answer is not shared either, also where steps have changed nothing.
func TestAnswersApart(t *testing.T) {
	stack, l := rising(4), []calc.Step{push(5), step(calc.Drop)}
	a, _, _ := calc.Run(l, stack)
	b, _, _ := calc.Run(l, stack)
	for i := range a {
		a[i] = field.FromUint64(1000)
	}
	_ = append(a, field.FromUint64(1000))
	if !alike(b, rising(4)) || !alike(stack, rising(4)) {
		t.Error("what is answered is shared")
	}
}

// P3.1: a stack of more than MaxDepth is refused ahead of all that steps may have wrong.
func TestTooDeepFirst(t *testing.T) {
	for _, l := range [][]calc.Step{{step(-1)}, {step(11)}, {step(calc.Drop)}, {copyOf(top)}, {push(1)}} {
		refused(t, "65", l, rising(65), -1, api.ErrMany)
	}
}

// P3.1: ErrKind comes first, however deep the stack is.
func TestNoSuchOp(t *testing.T) {
	for _, op := range []int{-1 << 63, -2, -1, 11, 12, 255, 256, 1 << 32, 1<<63 - 1} {
		for _, depth := range []int{0, 1, 2, 63, 64} {
			refused(t, name(op), []calc.Step{{Op: op, N: top}}, rising(depth), 0, api.ErrKind)
		}
	}
}

// P3.1: each Op at a stack of what it needs, and of one less.
func TestTooFew(t *testing.T) {
	for op, need := range needs() {
		_, place, err := run(t, []calc.Step{step(op)}, rising(need))
		if place != -1 || err != api.OK {
			t.Errorf("%s with %d elements: error %d at %d", name(op), need, err, place)
		}
		for depth := range need {
			refused(t, name(op), []calc.Step{step(op)}, rising(depth), 0, api.ErrNone)
		}
	}
}

// P3.1: what a step leaves is what the next one finds too little.
func TestTooFewLater(t *testing.T) {
	refused(t, "Mul", []calc.Step{push(1), step(calc.Mul)}, nil, 1, api.ErrNone)
	refused(t, "Drop", []calc.Step{step(calc.Drop), step(calc.Drop), step(calc.Drop)}, rising(2), 2, api.ErrNone)
	for _, op := range []int{calc.Add, calc.Sub, calc.Mul, calc.Same} {
		refused(t, name(op), []calc.Step{step(op), step(op)}, rising(2), 1, api.ErrNone)
	}
}

// P3.1: Copy at each N that there is, and at those that there aren't.
func TestCopy(t *testing.T) {
	for _, depth := range []int{0, 1, 2, 5, 63, 64} {
		stack := rising(depth)
		for n := range depth {
			// A copy of all 64 is one too many, but not one too few.
			if depth == calc.MaxDepth {
				refused(t, "Copy at 64", []calc.Step{copyOf(uint64(n))}, stack, 0, api.ErrMany)
				continue
			}
			want := append(rising(depth), stack[depth-1-n])
			done(t, "Copy", []calc.Step{copyOf(uint64(n))}, stack, want)
		}
		for _, n := range []uint64{uint64(depth), uint64(depth) + 1, 1000, 1<<32 - 1, 1 << 32, 1<<63 - 1, 1 << 63, top - 1, top} {
			refused(t, "Copy of none", []calc.Step{copyOf(n)}, stack, 0, api.ErrNone)
		}
	}
}

// P3.1: Push at every number, which may be above an int.
func TestPush(t *testing.T) {
	for _, n := range []uint64{0, 1, 1<<32 - 1, 1 << 32, 1<<63 - 1, 1 << 63, top - 1, top} {
		done(t, "Push", []calc.Step{push(n)}, stackOf(4), append(stackOf(4), field.FromUint64(n)))
	}
}

// P3.1: N counts for Push and Copy alone.
func TestNumberUnread(t *testing.T) {
	for op := range needs() {
		if op == calc.Push || op == calc.Copy {
			continue
		}
		want, _, err := calc.Run([]calc.Step{{Op: op}}, stackOf(9, 8, 7))
		if err != api.OK {
			t.Errorf("%s: error %d", name(op), err)
		}
		for _, n := range []uint64{1, 2, 3, 64, top} {
			done(t, name(op), []calc.Step{{Op: op, N: n}}, stackOf(9, 8, 7), want)
		}
	}
}

// P3.1: Push and Copy up to 64 elements, and at 64.
func TestTooMany(t *testing.T) {
	for _, last := range []calc.Step{push(5), copyOf(0), copyOf(63)} {
		refused(t, name(last.Op), []calc.Step{last}, rising(64), 0, api.ErrMany)
		refused(t, name(last.Op), []calc.Step{push(1), last}, rising(63), 1, api.ErrMany)
		refused(t, name(last.Op), []calc.Step{step(calc.Drop), push(1), last}, rising(64), 2, api.ErrMany)
	}
	done(t, "Push at 63", []calc.Step{push(64)}, rising(63), rising(64))
	done(t, "Copy at 63", []calc.Step{copyOf(62)}, rising(63), append(rising(63), field.FromUint64(1)))
	l := []calc.Step{}
	for i := range uint64(64) {
		l = append(l, push(i+1))
	}
	done(t, "64 times Push", l, nil, rising(64))
	refused(t, "65 times Push", append(l, push(65)), nil, 64, api.ErrMany)
}

// P3.1: Ops that lay no more on top than they take are done on a full stack.
func TestFullStack(t *testing.T) {
	for op := range needs() {
		if op == calc.Push || op == calc.Copy {
			continue
		}
		if _, place, err := run(t, []calc.Step{step(op)}, rising(64)); place != -1 || err != api.OK {
			t.Errorf("%s: error %d at %d", name(op), err, place)
		}
	}
}

// P3.1: of several steps that are wrong the first one is told.
func TestFirstWrong(t *testing.T) {
	kind, none := step(11), copyOf(top)
	refused(t, "ErrNone, ErrKind", []calc.Step{push(1), none, kind}, nil, 1, api.ErrNone)
	refused(t, "ErrKind, ErrNone", []calc.Step{push(1), kind, none}, nil, 1, api.ErrKind)
	refused(t, "ErrMany, ErrKind", []calc.Step{push(1), push(2), kind}, rising(63), 1, api.ErrMany)
	refused(t, "ErrMany, though dropped", []calc.Step{push(1), step(calc.Drop)}, rising(64), 0, api.ErrMany)
	refused(t, "ErrNone at 64", []calc.Step{copyOf(64)}, rising(64), 0, api.ErrNone)
}
