package limb

import (
	"math/bits"
	"slices"

	"avouch/api"
)

// MaxWords is how many words a modulus has at most.
const MaxWords = 16

// Modulus is an odd number, modulo which is reckoned.
type Modulus struct {
	words []uint64
	// raised is the modulus shifted up by shift bits, so that its highest bit is set: only then is a quotient that is
	// guessed from the highest words nearly right.
	raised []uint64
	shift  int
}

// New gives a modulus.
func New(m []uint64) (*Modulus, api.Errno) {
	if !isModulus(m) {
		return nil, api.ErrArg
	}
	shift := bits.LeadingZeros64(m[len(m)-1])
	raised := slices.Clone(m)
	shiftUp(raised, shift)
	return &Modulus{words: slices.Clone(m), raised: raised, shift: shift}, api.OK
}

func isModulus(m []uint64) bool {
	n := len(m)
	if n == 0 || n > MaxWords {
		return false
	}
	isOne := n == 1 && m[0] == 1
	return m[0]%2 == 1 && m[n-1] != 0 && !isOne
}

// Len gives how many words it has.
func (m *Modulus) Len() int { return len(m.words) }

// Words gives it.
func (m *Modulus) Words() []uint64 { return slices.Clone(m.words) }

// Reduce gives a number's rest.
func (m *Modulus) Reduce(a []uint64) []uint64 {
	work := m.room(len(a))
	copy(work, a)
	return m.rest(work)
}

// Add adds.
func (m *Modulus) Add(a, b []uint64) []uint64 {
	sum, carry := Add(m.Reduce(a), m.Reduce(b))
	if carry == 1 || Cmp(sum, m.words) >= 0 {
		sum, _ = Sub(sum, m.words)
	}
	return sum
}

// Sub takes away.
func (m *Modulus) Sub(a, b []uint64) []uint64 {
	difference, borrow := Sub(m.Reduce(a), m.Reduce(b))
	if borrow == 1 {
		difference, _ = Add(difference, m.words)
	}
	return difference
}

// Mul multiplies.
func (m *Modulus) Mul(a, b []uint64) []uint64 {
	a, b = m.shorten(a), m.shorten(b)
	work := m.room(len(a) + len(b))
	multiply(work, a, b)
	return m.rest(work)
}

// Exp raises to a power.
func (m *Modulus) Exp(a, e []uint64) []uint64 {
	base := m.Reduce(a)
	power := m.Reduce([]uint64{1})
	for i := Bits(e) - 1; i >= 0; i-- {
		power = m.Mul(power, power)
		if e[i/wordBits]>>(i%wordBits)&1 == 1 {
			power = m.Mul(power, base)
		}
	}
	return power
}

// shorten keeps the product of long numbers short. What it gives may be a itself, and is only to be read.
func (m *Modulus) shorten(a []uint64) []uint64 {
	if len(a) > len(m.words) {
		return m.Reduce(a)
	}
	return a
}
