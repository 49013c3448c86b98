package matrix_test

import (
	"math/big"
	"math/rand"
	"slices"
	"testing"

	"avouch/api"
	"avouch/field"
	"avouch/matrix"
)

// vector and grid are what the tests reckon with by themselves: the library's own numbers, from 0 to p - 1.
type (
	vector [3]*big.Int
	grid   [3]vector
)

// dice always fall alike, so that a test that fails once fails again.
func dice() *rand.Rand { return rand.New(rand.NewSource(9)) }

// prime is p as layer 2's chapter writes it.
func prime() *big.Int {
	p, _ := new(big.Int).SetString("30644e72e131a029"+"b85045b68181585d"+"2833e84879b97091"+"43e1f593f0000001", 16)
	return p
}

// rest gives a number's rest modulo p.
func rest(a *big.Int) *big.Int { return new(big.Int).Mod(a, prime()) }

func times(a, b *big.Int) *big.Int { return rest(new(big.Int).Mul(a, b)) }

func plus(a, b *big.Int) *big.Int { return rest(new(big.Int).Add(a, b)) }

func less(a, b *big.Int) *big.Int { return rest(new(big.Int).Sub(a, b)) }

// over gives a divided by b, which isn't 0.
func over(a, b *big.Int) *big.Int { return times(a, new(big.Int).ModInverse(b, prime())) }

// number gives an element's number.
func number(e field.Element) *big.Int {
	b := e.Bytes()
	slices.Reverse(b[:])
	return new(big.Int).SetBytes(b[:])
}

func element(t *testing.T, a *big.Int) field.Element {
	t.Helper()
	b := a.FillBytes(make([]byte, api.FieldBytes))
	slices.Reverse(b)
	e, err := field.FromBytes(b)
	if err != api.OK {
		t.Fatalf("FromBytes of %v: error %d", a, err)
	}
	return e
}

func vectorOf(t *testing.T, v vector) matrix.Vector {
	t.Helper()
	var out matrix.Vector
	for i := range 3 {
		out[i] = element(t, v[i])
	}
	return out
}

func matrixOf(t *testing.T, g grid) matrix.Matrix {
	t.Helper()
	var out matrix.Matrix
	for i := range 3 {
		out[i] = vectorOf(t, g[i])
	}
	return out
}

// gridOf reads small numbers, of either sign.
func gridOf(n [3][3]int64) grid {
	var out grid
	for i := range 3 {
		for j := range 3 {
			out[i][j] = rest(big.NewInt(n[i][j]))
		}
	}
	return out
}

// gridBy is filled by a function.
func gridBy(tell func(i, j int) *big.Int) grid {
	var out grid
	for i := range 3 {
		for j := range 3 {
			out[i][j] = tell(i, j)
		}
	}
	return out
}

func unit() grid { return gridOf([3][3]int64{{1, 0, 0}, {0, 1, 0}, {0, 0, 1}}) }

// cauchy is the grid whose elements are the inverses of i + j + 3.
func cauchy() grid {
	return gridBy(func(i, j int) *big.Int { return over(big.NewInt(1), big.NewInt(int64(i+j+3))) })
}

// mirrored gives rows for columns.
func mirrored(g grid) grid {
	return gridBy(func(i, j int) *big.Int { return g[j][i] })
}

// with gives the grid that has another element at one place.
func with(g grid, i, j int, a *big.Int) grid {
	g[i][j] = a
	return g
}

// edgeNumbers are those at which an element's sums and products go wrong first.
func edgeNumbers() []*big.Int {
	p := prime()
	half := new(big.Int).Rsh(p, 1)
	return []*big.Int{
		big.NewInt(0), big.NewInt(1), big.NewInt(2), less(p, big.NewInt(1)), less(p, big.NewInt(2)), half, plus(half, big.NewInt(1)),
	}
}

// anyNumber is one of the edges every other time, so that several of a matrix are.
func anyNumber(r *rand.Rand) *big.Int {
	if edges := edgeNumbers(); r.Intn(2) == 0 {
		return edges[r.Intn(len(edges))]
	}
	return wildNumber(r)
}

// wildNumber is hardly ever an edge.
func wildNumber(r *rand.Rand) *big.Int { return new(big.Int).Rand(r, prime()) }

func anyVector(r *rand.Rand) vector { return vector{anyNumber(r), anyNumber(r), anyNumber(r)} }

func anyGrid(r *rand.Rand) grid {
	return gridBy(func(i, j int) *big.Int { return anyNumber(r) })
}

func wildGrid(r *rand.Rand) grid {
	return gridBy(func(i, j int) *big.Int { return wildNumber(r) })
}

// extremes are the grids whose elements are 0, 1 and p - 1 alone, each 101st of all of them.
func extremes() []grid {
	three := []*big.Int{big.NewInt(0), big.NewInt(1), less(prime(), big.NewInt(1))}
	var out []grid
	for which := 0; which < 19683; which += 101 {
		digits := which
		out = append(out, gridBy(func(i, j int) *big.Int {
			digit := digits % 3
			digits /= 3
			return three[digit]
		}))
	}
	return out
}

// someGrids are all sorts: the chapter's own, small ones that aren't their own mirror image, extremes, and more that the
// dice tell.
func someGrids(r *rand.Rand, more int) []grid {
	out := []grid{
		unit(), cauchy(),
		gridOf([3][3]int64{}), gridOf([3][3]int64{{1, 1, 1}, {1, 1, 1}, {1, 1, 1}}), gridOf([3][3]int64{{-1, -1, -1}, {-1, -1, -1}, {-1, -1, -1}}),
		gridOf([3][3]int64{{1, 2, 3}, {4, 5, 6}, {7, 8, 10}}), gridOf([3][3]int64{{2, 3, 5}, {7, 11, 13}, {17, 19, 23}}),
		gridOf([3][3]int64{{0, 1, 0}, {0, 0, 1}, {1, 0, 0}}), gridOf([3][3]int64{{0, 2, 3}, {0, 0, 5}, {0, 0, 0}}),
	}
	out = append(out, extremes()...)
	for range more {
		out = append(out, anyGrid(r), wildGrid(r))
	}
	return out
}

// vectorNumbers and matrixNumbers give what elements stand for.
func vectorNumbers(v matrix.Vector) vector { return vector{number(v[0]), number(v[1]), number(v[2])} }

func matrixNumbers(m matrix.Matrix) grid {
	return grid{vectorNumbers(m[0]), vectorNumbers(m[1]), vectorNumbers(m[2])}
}

func expectElement(t *testing.T, what any, got field.Element, want *big.Int) {
	t.Helper()
	if n := number(got); n.Cmp(want) != 0 {
		t.Errorf("%v: %v, wanted %v", what, n, want)
	}
}

func expectVector(t *testing.T, what any, got matrix.Vector, want vector) {
	t.Helper()
	for i := range 3 {
		if n := number(got[i]); n.Cmp(want[i]) != 0 {
			t.Errorf("%v: the element %d is %v, wanted %v", what, i, n, want[i])
		}
	}
}

func expectMatrix(t *testing.T, what any, got matrix.Matrix, want grid) {
	t.Helper()
	for i := range 3 {
		for j := range 3 {
			if n := number(got[i][j]); n.Cmp(want[i][j]) != 0 {
				t.Errorf("%v: the element of %d and %d is %v, wanted %v", what, i, j, n, want[i][j])
			}
		}
	}
}
