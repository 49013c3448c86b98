package poseidon

import (
	"avouch/grain"
	"avouch/matrix"
)

// elementBits is how many bits an element of the field has.
const elementBits = 254

// find finds what all rounds need.
func (p *Permutation) find() {
	p.mixing = matrix.Cauchy()
	// There is no error, as each of the numbers is within its bounds.
	source, _ := grain.New(elementBits, matrix.Width, Ahead+Behind, Partial)
	for round := range p.constants {
		for i := range matrix.Width {
			p.constants[round][i] = source.Element()
		}
	}
}

// isPartial tells whether a round is a partial one.
func isPartial(round int) bool { return round >= Ahead && round < Ahead+Partial }

// sums gives the sums of two vectors' elements that have the same place.
func sums(v, w matrix.Vector) matrix.Vector {
	var out matrix.Vector
	for i, e := range v {
		out[i] = e.Add(w[i])
	}
	return out
}

// powers gives the fifth powers of a vector's elements.
func powers(v matrix.Vector) matrix.Vector {
	var out matrix.Vector
	for i, e := range v {
		out[i] = Power(e)
	}
	return out
}
