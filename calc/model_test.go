package calc_test

import (
	"math/big"
	"math/rand"
	"slices"
	"testing"

	"avouch/api"
	"avouch/calc"
	"avouch/field"
)

// prime is p, read by the library's own numbers.
func prime() *big.Int {
	b := field.Prime()
	slices.Reverse(b[:])
	return new(big.Int).SetBytes(b[:])
}

func elementOf(n *big.Int) field.Element {
	b := n.FillBytes(make([]byte, api.FieldBytes))
	slices.Reverse(b)
	e, _ := field.FromBytes(b)
	return e
}

// model does a step with a list of numbers as the chapter's table says it; it gives nil for one that can't be done.
func model(list []*big.Int, s calc.Step, p *big.Int) ([]*big.Int, api.Errno) {
	if s.Op < 0 || s.Op > 10 {
		return nil, api.ErrKind
	}
	if len(list) < needs()[s.Op] || s.Op == calc.Copy && s.N >= uint64(len(list)) {
		return nil, api.ErrNone
	}
	if len(list) == calc.MaxDepth && (s.Op == calc.Push || s.Op == calc.Copy) {
		return nil, api.ErrMany
	}
	under := slices.Clone(list[:len(list)-needs()[s.Op]])
	taken := list[len(under):]
	out := new(big.Int)
	switch s.Op {
	case calc.Push:
		out.SetUint64(s.N)
	case calc.Add:
		out.Add(taken[0], taken[1])
	case calc.Sub:
		out.Sub(taken[0], taken[1])
	case calc.Mul:
		out.Mul(taken[0], taken[1])
	case calc.Neg:
		out.Neg(taken[0])
	case calc.Square:
		out.Mul(taken[0], taken[0])
	case calc.Inverse:
		out.Exp(taken[0], new(big.Int).Sub(p, big.NewInt(2)), p)
	case calc.Copy:
		return append(slices.Clone(list), list[len(list)-1-int(s.N)]), api.OK
	case calc.Swap:
		return append(under, taken[1], taken[0]), api.OK
	case calc.Drop:
		return under, api.OK
	case calc.Same:
		if taken[0].Cmp(taken[1]) == 0 {
			out.SetInt64(1)
		}
	}
	return append(under, out.Mod(out, p)), api.OK
}

// someStep tells one by dice: mostly an Op that there is, mostly a small number.
func someStep(r *rand.Rand, wrong bool) calc.Step {
	op, n := r.Intn(11), uint64(r.Intn(5))
	if r.Intn(4) == 0 {
		n = r.Uint64()
	}
	if op == calc.Copy && !wrong {
		n = 0
	}
	if r.Intn(3) == 0 {
		op = calc.Push
	}
	if wrong && r.Intn(20) == 0 {
		op = r.Intn(40) - 20
	}
	return calc.Step{Op: op, N: n}
}

// P3.1: lists of steps that the dice tell, held against the library's own numbers.
func TestAgainstModel(t *testing.T) {
	r, p := rand.New(rand.NewSource(3)), prime()
	for round := range 400 {
		numbers, stack := []*big.Int{}, []field.Element{}
		for range r.Intn(65) {
			n := new(big.Int).Rand(r, p)
			numbers, stack = append(numbers, n), append(stack, elementOf(n))
		}
		l, place, err := []calc.Step{}, -1, api.OK
		for i := range r.Intn(60) {
			s := someStep(r, round%2 == 0)
			next, e := model(numbers, s, p)
			if e != api.OK && round%2 == 1 {
				continue
			}
			l = append(l, s)
			if e != api.OK {
				place, err = i, e
				break
			}
			numbers = next
		}
		if err != api.OK {
			refused(t, "model", append(l, someStep(r, true)), stack, place, err)
			continue
		}
		want := []field.Element{}
		for _, n := range numbers {
			want = append(want, elementOf(n))
		}
		done(t, "model", l, stack, want)
	}
}
