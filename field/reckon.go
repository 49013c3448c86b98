package field

import "avouch/limb"

// Add adds.
func (e Element) Add(f Element) Element { return Element{sum(e.words, f.words)} }

// Sub takes away.
func (e Element) Sub(f Element) Element { return Element{difference(e.words, f.words)} }

// Neg gives what is to be added so that there is 0.
func (e Element) Neg() Element { return Element{}.Sub(e) }

// Mul multiplies.
func (e Element) Mul(f Element) Element { return Element{product(e.words, f.words)} }

// Square multiplies by itself.
func (e Element) Square() Element { return e.Mul(e) }

// Exp raises to a power.
func (e Element) Exp(power []uint64) Element {
	out := FromUint64(1)
	for i := limb.Bits(power) - 1; i >= 0; i-- {
		out = out.Square()
		if power[i/64]>>(i%64)&1 == 1 {
			out = out.Mul(e)
		}
	}
	return out
}

// Inverse gives by what is to be multiplied so that there is 1.
func (e Element) Inverse() Element {
	// By Fermat a power of p - 1 is 1, but of 0, whose powers are 0, as is asked.
	p := prime
	power, _ := limb.Sub(p[:], []uint64{2})
	return e.Exp(power)
}

// Sum adds elements.
func Sum(l ...Element) Element {
	var out Element
	for _, e := range l {
		out = out.Add(e)
	}
	return out
}
