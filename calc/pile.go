package calc

import "avouch/field"

// pile is a stack of Run's own, which its methods change where it lies. They ask that it is deep enough (see enough), and
// may leave one element too many on it.
type pile []field.Element

// deed is what an Op does: each takes the step's number, so that all of them are of one kind.
type deed func(p pile, n uint64) pile

func deeds() map[int]deed {
	return map[int]deed{
		Push:    pile.push,
		Add:     pile.add,
		Sub:     pile.sub,
		Mul:     pile.mul,
		Neg:     pile.neg,
		Square:  pile.square,
		Inverse: pile.inverse,
		Copy:    pile.copy,
		Swap:    pile.swap,
		Drop:    pile.drop,
		Same:    pile.same,
	}
}

// needs has how deep a pile must be, by Op. What Copy needs hangs on the step's number as well.
var needs = [...]int{Push: 0, Add: 2, Sub: 2, Mul: 2, Neg: 1, Square: 1, Inverse: 1, Copy: 1, Swap: 2, Drop: 1, Same: 2}

func (p pile) enough(step Step) bool {
	if step.Op == Copy {
		// N and 1 may be more than a uint64 holds: N alone is held against the depth.
		return step.N < uint64(len(p))
	}
	return len(p) >= needs[step.Op]
}

func (p pile) push(n uint64) pile { return append(p, field.FromUint64(n)) }

func (p pile) add(uint64) pile { return p.join(field.Element.Add) }

func (p pile) sub(uint64) pile { return p.join(field.Element.Sub) }

func (p pile) mul(uint64) pile { return p.join(field.Element.Mul) }

func (p pile) neg(uint64) pile { return p.turn(field.Element.Neg) }

func (p pile) square(uint64) pile { return p.turn(field.Element.Square) }

func (p pile) inverse(uint64) pile { return p.turn(field.Element.Inverse) }

func (p pile) copy(n uint64) pile { return append(p, p[len(p)-1-int(n)]) }

func (p pile) swap(uint64) pile {
	top := len(p) - 1
	p[top-1], p[top] = p[top], p[top-1]
	return p
}

func (p pile) drop(uint64) pile { return p[:len(p)-1] }

func (p pile) same(uint64) pile { return p.join(sameness) }

// join lays what f makes of the two upper ones, the lower one first, in their place.
func (p pile) join(f func(lower, upper field.Element) field.Element) pile {
	top := len(p) - 1
	p[top-1] = f(p[top-1], p[top])
	return p[:top]
}

// turn lays what f makes of the top in its place.
func (p pile) turn(f func(field.Element) field.Element) pile {
	top := len(p) - 1
	p[top] = f(p[top])
	return p
}

func sameness(a, b field.Element) field.Element {
	if a.Equal(b) {
		return field.FromUint64(1)
	}
	return field.Element{}
}
