package limb_test

import (
	"math/big"
	"math/rand"
	"slices"
	"testing"

	"avouch/api"
	"avouch/limb"
)

// P1.3
func TestNewRefuses(t *testing.T) {
	cases := []struct {
		name string
		m    []uint64
	}{
		{"nil", nil},
		{"no word", []uint64{}},
		{"more than MaxWords", filled(limb.MaxWords+1, 1)},
		{"far more than MaxWords", filled(1000, top)},
		{"0", []uint64{0}},
		{"1", []uint64{1}},
		{"1 in two words", []uint64{1, 0}},
		{"2", []uint64{2}},
		{"even", []uint64{4}},
		{"even, and only its lowest word tells", []uint64{0, 1}},
		{"even in MaxWords", append(filled(limb.MaxWords-1, 2), 1)},
		{"a last word of 0", []uint64{7, 0}},
		{"a last word of 0 in MaxWords", append(filled(limb.MaxWords-1, 1), 0)},
	}
	for _, c := range cases {
		if m, err := limb.New(c.m); err != api.ErrArg || m != nil {
			t.Errorf("%s: %v, error %d", c.name, m, err)
		}
	}
}

// P1.3
func TestNewTakes(t *testing.T) {
	if limb.MaxWords != 16 {
		t.Errorf("MaxWords: %d", limb.MaxWords)
	}
	cases := [][]uint64{
		{3},
		{7},
		{top},
		{1, 1},
		{1, top},
		append(filled(limb.MaxWords-1, 0), 1),
		filled(limb.MaxWords, top),
	}
	for _, words := range cases {
		words[0] |= 1
		m := mustNew(t, words)
		if m.Len() != len(words) {
			t.Errorf("Len of %v: %d", words, m.Len())
		}
		expectWords(t, "Words", m.Words(), words)
	}
}

// P1.3
func TestModuloSeven(t *testing.T) {
	m := mustNew(t, []uint64{7})
	cases := []struct {
		name      string
		got, want []uint64
	}{
		{"rest of nothing", m.Reduce(nil), []uint64{0}},
		{"rest of 7", m.Reduce([]uint64{7}), []uint64{0}},
		{"rest of 6, in three words", m.Reduce([]uint64{6, 0, 0}), []uint64{6}},
		{"rest of 2^64", m.Reduce([]uint64{0, 1}), []uint64{2}},
		{"9 + 5", m.Add([]uint64{9}, []uint64{5}), []uint64{0}},
		{"nothing + nothing", m.Add(nil, nil), []uint64{0}},
		{"1 - 3", m.Sub([]uint64{1}, []uint64{3}), []uint64{5}},
		{"3 - 10", m.Sub([]uint64{3}, []uint64{10}), []uint64{0}},
		{"3 times 5", m.Mul([]uint64{3}, []uint64{5}), []uint64{1}},
		{"nothing times 5", m.Mul(nil, []uint64{5}), []uint64{0}},
		{"3 to the power of 6", m.Exp([]uint64{3}, []uint64{6}), []uint64{1}},
		{"2 to the power of 2^64", m.Exp([]uint64{2}, []uint64{0, 1}), []uint64{2}},
		{"2 to the power of 4, in three words", m.Exp([]uint64{2}, []uint64{4, 0, 0}), []uint64{2}},
		{"5 to the power 0", m.Exp([]uint64{5}, nil), []uint64{1}},
		{"5 to the power 0, in two words", m.Exp([]uint64{5}, []uint64{0, 0}), []uint64{1}},
		{"0 to the power 0", m.Exp(nil, nil), []uint64{1}},
		{"14 to the power 0", m.Exp([]uint64{14}, []uint64{0}), []uint64{1}},
		{"0 to the power of 5", m.Exp(nil, []uint64{5}), []uint64{0}},
	}
	for _, c := range cases {
		expectWords(t, c.name, c.got, c.want)
	}
}

// P1.3: TestModuloEdges holds what is just below, at, and just above a modulus against its rest, for moduli of 1 to MaxWords words.
func TestModuloEdges(t *testing.T) {
	one := []uint64{1}
	for size := 1; size <= limb.MaxWords; size++ {
		zero, unit := filled(size, 0), fromBig(big.NewInt(1), size)
		for _, highest := range []uint64{3, 1<<63 - 1, 1 << 63, top} {
			words := filled(size, top)
			words[size-1] = highest
			words[0] |= 1
			m := mustNew(t, words)
			below, _ := limb.Sub(words, one)
			above, carry := limb.Add(words, one)
			expectWords(t, "below", m.Reduce(below), below)
			expectWords(t, "at", m.Reduce(words), zero)
			expectWords(t, "above", m.Reduce(append(above, carry)), unit)
			expectWords(t, "-1 + 1", m.Add(below, one), zero)
			expectWords(t, "0 - 1", m.Sub(nil, one), below)
			expectWords(t, "-1 times -1", m.Mul(below, below), unit)
			expectWords(t, "-1 to an odd power", m.Exp(below, []uint64{3, 0, 1}), below)
			expectWords(t, "-1 to the power 0", m.Exp(below, nil), unit)
		}
	}
}

// P1.3
func TestModulusAgainstBig(t *testing.T) {
	r := dice()
	for round := range 6000 {
		m := anyModulus(t, r, 1+round%limb.MaxWords)
		a, b := anyNumber(r, r.Intn(2*m.Len()+3)), anyNumber(r, r.Intn(2*m.Len()+3))
		x, y, size := toBig(a), toBig(b), toBig(m.Words())
		rest := func(v *big.Int) []uint64 { return fromBig(new(big.Int).Mod(v, size), m.Len()) }
		expectWords(t, "Reduce", m.Reduce(a), rest(x))
		expectWords(t, "Add", m.Add(a, b), rest(new(big.Int).Add(x, y)))
		expectWords(t, "Sub", m.Sub(a, b), rest(new(big.Int).Sub(x, y)))
		expectWords(t, "Mul", m.Mul(a, b), rest(new(big.Int).Mul(x, y)))
		if t.Failed() {
			t.Fatalf("modulo %v, of %v and %v", m.Words(), a, b)
		}
	}
}

// P1.3
func TestExpAgainstBig(t *testing.T) {
	r := dice()
	for round := range 200 {
		m := anyModulus(t, r, 1+round%limb.MaxWords)
		a, e := anyNumber(r, r.Intn(2*m.Len()+3)), anyNumber(r, r.Intn(5))
		want := new(big.Int).Exp(toBig(a), toBig(e), toBig(m.Words()))
		expectWords(t, "Exp", m.Exp(a, e), fromBig(want, m.Len()))
	}
}

// P1.3: TestGuessedQuotients is about numbers so close to multiples of the modulus that a quotient guessed from the highest
// words is too great by one and by two.
func TestGuessedQuotients(t *testing.T) {
	r := dice()
	for range 20000 {
		m := anyModulus(t, r, 2+r.Intn(3))
		size := toBig(m.Words())
		near := new(big.Int).Mul(size, toBig(anyNumber(r, 1+r.Intn(3))))
		near.Add(near, big.NewInt(int64(r.Intn(5)-2)))
		near.Abs(near)
		a := fromBig(near, 2*limb.MaxWords)
		expectWords(t, "Reduce", m.Reduce(a), fromBig(new(big.Int).Mod(near, size), m.Len()))
		if t.Failed() {
			t.Fatalf("modulo %v, of %v", m.Words(), a)
		}
	}
}

// P1.3
func TestLongNumbers(t *testing.T) {
	m := mustNew(t, []uint64{top, top, 5})
	long := anyNumber(rand.New(rand.NewSource(2)), 20000)
	size := toBig(m.Words())
	rest := new(big.Int).Mod(toBig(long), size)
	expectWords(t, "Reduce", m.Reduce(long), fromBig(rest, 3))
	square := new(big.Int).Mul(rest, rest)
	expectWords(t, "Mul", m.Mul(long, long), fromBig(square.Mod(square, size), 3))
	expectWords(t, "Reduce of 0", m.Reduce(make([]uint64, 20000)), []uint64{0, 0, 0})
}

// K5, of P1.3
func TestModulusSharesNothing(t *testing.T) {
	given := []uint64{top, 9}
	m := mustNew(t, given)
	clear(given)
	clear(m.Words())
	expectWords(t, "the modulus", m.Words(), []uint64{top, 9})

	a, b := []uint64{5, 1}, []uint64{2, 3}
	for _, out := range [][]uint64{m.Reduce(a), m.Add(a, nil), m.Sub(a, nil), m.Mul(a, []uint64{1}), m.Exp(a, []uint64{1})} {
		expectWords(t, "a itself", out, []uint64{5, 1})
		clear(out[:cap(out)])
	}
	expectWords(t, "the first argument", a, []uint64{5, 1})

	m.Add(a, b)
	m.Sub(b, a)
	m.Mul(a, b)
	m.Exp(a, b)
	m.Reduce([]uint64{1, 2, 3})
	expectWords(t, "the first argument", a, []uint64{5, 1})
	expectWords(t, "the second argument", b, []uint64{2, 3})
	expectWords(t, "the modulus", m.Words(), []uint64{top, 9})
}

// P1.3: TestLengths asks for answers of just Len() words, however short or long what was handed in is.
func TestLengths(t *testing.T) {
	m := mustNew(t, append(filled(limb.MaxWords-1, 1), top))
	for _, a := range [][]uint64{nil, {0}, {1}, filled(limb.MaxWords, top), filled(3*limb.MaxWords, top)} {
		for _, out := range [][]uint64{m.Reduce(a), m.Add(a, nil), m.Add(a, a), m.Sub(a, nil), m.Sub(nil, a), m.Mul(a, nil), m.Mul(a, a), m.Exp(a, nil), m.Exp(a, []uint64{2})} {
			if len(out) != m.Len() {
				t.Errorf("%d words, of %d", len(out), len(a))
			}
		}
	}
	if twice := slices.Concat(m.Reduce(nil), m.Mul(nil, nil)); limb.Bits(twice) != 0 {
		t.Errorf("of nothing: %v", twice)
	}
}
