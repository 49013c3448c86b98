package group

import (
	"avouch/api"
	"avouch/field"
	"avouch/wide"
)

// Scalar is an exponent.
type Scalar struct {
	number wide.Number
}

// ReadScalar gives the exponent of bytes.
func ReadScalar(b []byte) (Scalar, api.Errno) {
	n, err := wide.Exponents().Read(b)
	return Scalar{n}, err
}

// OfField gives the exponent of a field element's number.
func OfField(e field.Element) Scalar {
	b := e.Bytes()
	return restOf(b[:])
}

// OfNumber gives the exponent that is a number's rest.
func OfNumber(n wide.Number) Scalar {
	b := wide.Write(n)
	return restOf(b[:])
}

func restOf(b []byte) Scalar { return Scalar{wide.Exponents().Reduce(b)} }

// Bytes gives an exponent's bytes.
func (s Scalar) Bytes() [api.GroupBytes]byte { return wide.Write(s.number) }

// Add adds.
func (s Scalar) Add(t Scalar) Scalar { return join((*wide.Ring).Add, s, t) }

// Sub takes away.
func (s Scalar) Sub(t Scalar) Scalar { return join((*wide.Ring).Sub, s, t) }

// Mul multiplies.
func (s Scalar) Mul(t Scalar) Scalar { return join((*wide.Ring).Mul, s, t) }

// join lets what a ring does with numbers be done with exponents.
func join(f func(r *wide.Ring, a, b wide.Number) wide.Number, s, t Scalar) Scalar {
	return Scalar{f(wide.Exponents(), s.number, t.number)}
}
