package matrix_test

import (
	"math/big"
	"slices"
	"testing"

	"avouch/field"
	"avouch/matrix"
)

// turned is one of the six ways to take one element of each row and column.
type turned struct {
	columns [3]int
	odd     bool
}

func ways() []turned {
	return []turned{
		{[3]int{0, 1, 2}, false}, {[3]int{1, 2, 0}, false}, {[3]int{2, 0, 1}, false},
		{[3]int{0, 2, 1}, true}, {[3]int{1, 0, 2}, true}, {[3]int{2, 1, 0}, true},
	}
}

// whole is the determinant of three rows, found otherwise than the chapter's words tell it: by the six ways.
func whole(g grid) *big.Int {
	sum := new(big.Int)
	for _, way := range ways() {
		product := times(times(g[0][way.columns[0]], g[1][way.columns[1]]), g[2][way.columns[2]])
		if way.odd {
			product = product.Neg(product)
		}
		sum.Add(sum, product)
	}
	return rest(sum)
}

// left is what stands in two rows when a row and a column are left out, row by row.
func left(g grid, row, column int) []*big.Int {
	var out []*big.Int
	for i := range 3 {
		for j := range 3 {
			if i != row && j != column {
				out = append(out, g[i][j])
			}
		}
	}
	return out
}

// pair is the determinant of two rows.
func pair(l []*big.Int) *big.Int { return less(times(l[0], l[3]), times(l[1], l[2])) }

// asWritten is the determinant by the chapter's words.
func asWritten(g grid) *big.Int {
	first, second, third := times(g[0][0], pair(left(g, 0, 0))), times(g[0][1], pair(left(g, 0, 1))), times(g[0][2], pair(left(g, 0, 2)))
	return plus(less(first, second), third)
}

// minors are the 19, in the chapter's order.
func minors(g grid) []*big.Int {
	var ones, pairs []*big.Int
	for i := range 3 {
		for j := range 3 {
			ones = append(ones, g[i][j])
			pairs = append(pairs, pair(left(g, i, j)))
		}
	}
	return append(append(ones, pairs...), whole(g))
}

// zeros are the places of the 19 at which there is 0.
func zeros(g grid) []int {
	var out []int
	for place, a := range minors(g) {
		if a.Sign() == 0 {
			out = append(out, place)
		}
	}
	return out
}

func expectMinors(t *testing.T, g grid) {
	t.Helper()
	expectNumbers(t, g, matrixOf(t, g).Minors(), minors(g))
}

func expectNumbers(t *testing.T, what any, got []field.Element, want []*big.Int) {
	t.Helper()
	if len(got) != 19 || len(want) != 19 {
		t.Fatalf("%v: %d determinants, wanted %d", what, len(got), len(want))
	}
	for place := range got {
		if n := number(got[place]); n.Cmp(want[place]) != 0 {
			t.Errorf("%v: the determinant %d is %v, wanted %v", what, place, n, want[place])
		}
	}
}

// numbersOf reads small numbers, of either sign.
func numbersOf(l ...int64) []*big.Int {
	var out []*big.Int
	for _, n := range l {
		out = append(out, rest(big.NewInt(n)))
	}
	return out
}

// P9.1
func TestDeterminant(t *testing.T) {
	for _, g := range someGrids(dice(), 300) {
		if asWritten(g).Cmp(whole(g)) != 0 {
			t.Fatalf("%v: the test's own two determinants are unlike", g)
		}
		expectElement(t, g, matrixOf(t, g).Determinant(), asWritten(g))
	}
	expectElement(t, "zeros", matrix.Matrix{}.Determinant(), new(big.Int))
	expectElement(t, "Unit", matrix.Unit().Determinant(), big.NewInt(1))
	expectElement(t, "known", matrixOf(t, gridOf([3][3]int64{{2, 3, 5}, {7, 11, 13}, {17, 19, 23}})).Determinant(), numbersOf(-78)[0])
}

// P9.1: one element of each row and column isn't 0, so that its sign shows.
func TestDeterminantBySigns(t *testing.T) {
	for _, way := range ways() {
		g := gridOf([3][3]int64{})
		for i, n := range []int64{2, 3, 5} {
			g[i][way.columns[i]] = big.NewInt(n)
		}
		want := big.NewInt(30)
		if way.odd {
			want = big.NewInt(-30)
		}
		expectElement(t, way, matrixOf(t, g).Determinant(), rest(want))
		expectMinors(t, g)
	}
}

// P9.1: of two like rows, of two like columns, and of rows of which one is a multiple of another.
func TestDeterminantOfLikeRows(t *testing.T) {
	r := dice()
	for range 30 {
		for _, two := range [][2]int{{0, 1}, {0, 2}, {1, 2}, {1, 0}, {2, 0}, {2, 1}} {
			g := wildGrid(r)
			g[two[0]] = g[two[1]]
			expectElement(t, two, matrixOf(t, g).Determinant(), new(big.Int))
			expectElement(t, two, matrixOf(t, mirrored(g)).Determinant(), new(big.Int))
			factor := anyNumber(r)
			for j := range 3 {
				g[two[0]][j] = times(g[two[1]][j], factor)
			}
			expectElement(t, two, matrixOf(t, g).Determinant(), new(big.Int))
		}
	}
}

// P9.1: of a row of zeros, and of a column of zeros.
func TestDeterminantOfARowOfZeros(t *testing.T) {
	r := dice()
	for range 30 {
		for i := range 3 {
			g := wildGrid(r)
			g[i] = vector{new(big.Int), new(big.Int), new(big.Int)}
			expectElement(t, i, matrixOf(t, g).Determinant(), new(big.Int))
			expectElement(t, i, matrixOf(t, mirrored(g)).Determinant(), new(big.Int))
		}
	}
}

// P9.1: two rows changed for one another, or two columns.
func TestDeterminantOfChangedRows(t *testing.T) {
	r := dice()
	for range 30 {
		g := wildGrid(r)
		d := matrixOf(t, g).Determinant()
		if d.IsZero() {
			t.Fatal("a determinant of 0: none to test it with")
		}
		for _, two := range [][2]int{{0, 1}, {0, 2}, {1, 2}} {
			h := g
			h[two[0]], h[two[1]] = g[two[1]], g[two[0]]
			expectElement(t, two, matrixOf(t, h).Determinant(), number(d.Neg()))
			expectElement(t, two, matrixOf(t, mirrored(h)).Determinant(), number(d.Neg()))
		}
		expectElement(t, "mirrored", matrixOf(t, mirrored(g)).Determinant(), number(d))
	}
}

// P9.1: of a product, the product; and a row's factor is the determinant's.
func TestDeterminantOfProducts(t *testing.T) {
	r := dice()
	for range 50 {
		m, n, factor := matrixOf(t, anyGrid(r)), matrixOf(t, wildGrid(r)), element(t, anyNumber(r))
		if !m.Mul(n).Determinant().Equal(m.Determinant().Mul(n.Determinant())) {
			t.Error("a product's determinant isn't that of its two")
		}
		for i := range 3 {
			o := n
			for j := range 3 {
				o[i][j] = o[i][j].Mul(factor)
			}
			expectElement(t, i, o.Determinant(), number(n.Determinant().Mul(factor)))
		}
	}
}

// P9.2: by the chapter's order, known from elsewhere: the 19 are all unlike.
func TestMinorsInOrder(t *testing.T) {
	g := gridOf([3][3]int64{{2, 3, 5}, {7, 11, 13}, {17, 19, 23}})
	want := numbersOf(
		2, 3, 5, 7, 11, 13, 17, 19, 23,
		11*23-13*19, 7*23-13*17, 7*19-11*17,
		3*23-5*19, 2*23-5*17, 2*19-3*17,
		3*13-5*11, 2*13-5*7, 2*11-3*7,
		-78,
	)
	for place, a := range want {
		for other, b := range want[:place] {
			if a.Cmp(b) == 0 {
				t.Fatalf("%d and %d are alike: none to test the order with", place, other)
			}
		}
	}
	expectNumbers(t, "known", matrixOf(t, g).Minors(), want)
	expectMinors(t, g)
	expectMinors(t, mirrored(g))
}

// P9.2
func TestMinors(t *testing.T) {
	for _, g := range someGrids(dice(), 300) {
		expectMinors(t, g)
		if m := matrixOf(t, g); !m.Minors()[18].Equal(m.Determinant()) {
			t.Errorf("%v: the last one isn't the determinant", g)
		}
	}
	expectNumbers(t, "zeros", matrix.Matrix{}.Minors(), numbersOf(slices.Repeat([]int64{0}, 19)...))
	expectNumbers(t, "Unit", matrix.Unit().Minors(), numbersOf(1, 0, 0, 0, 1, 0, 0, 0, 1, 1, 0, 0, 0, 1, 0, 0, 0, 1, 1))
}

// P9.2: each of the 19 stands at its place, in many matrices whose 19 are all unlike.
func TestMinorsAllUnlike(t *testing.T) {
	r := dice()
	for range 50 {
		g := wildGrid(r)
		l := minors(g)
		slices.SortFunc(l, (*big.Int).Cmp)
		if len(slices.CompactFunc(l, func(a, b *big.Int) bool { return a.Cmp(b) == 0 })) != 19 {
			t.Fatal("two of the 19 are alike: none to test the order with")
		}
		expectMinors(t, g)
	}
}

// K5, of P9.2: what was answered stays, whatever is called behind it; and it may be changed.
func TestMinorsAreNew(t *testing.T) {
	r := dice()
	g, h := wildGrid(r), wildGrid(r)
	m, n := matrixOf(t, g), matrixOf(t, h)
	first := m.Minors()
	again, other := m.Minors(), n.Minors()
	n.Good()
	m.Good()
	n.Determinant()
	matrix.Cauchy().Minors()
	expectNumbers(t, "behind other calls", first, minors(g))
	expectNumbers(t, "the other one's", other, minors(h))
	clear(first)
	expectNumbers(t, "of the same matrix", again, minors(g))
	expectNumbers(t, "the other one's, still", other, minors(h))
	expectNumbers(t, "asked for again", m.Minors(), minors(g))
	for i := range 3 {
		for j := range 3 {
			m[i][j] = field.Element{}
		}
	}
	expectNumbers(t, "behind the matrix's change", again, minors(g))
	_, _ = append(again, field.FromUint64(1)), append(again, field.FromUint64(2))
	expectNumbers(t, "behind appending", other, minors(h))
}

// alone gives a grid where the place-th of the 19 is 0, and no other one, made of another grid by changing one element.
func alone(t *testing.T, g grid, place int) grid {
	t.Helper()
	for i := range 3 {
		for j := range 3 {
			// A determinant grows with each of its elements by the same step.
			start := minors(with(g, i, j, big.NewInt(0)))[place]
			step := less(minors(with(g, i, j, big.NewInt(1)))[place], start)
			if step.Sign() == 0 {
				continue
			}
			h := with(g, i, j, over(less(new(big.Int), start), step))
			if slices.Equal(zeros(h), []int{place}) {
				return h
			}
		}
	}
	t.Fatalf("%v: no element to change so that the determinant %d alone is 0", g, place)
	return g
}

// P9.2: each of the 19 is 0 by itself, of Cauchy's matrix with one element changed, and of others.
func TestGoodWithOneZeroAlone(t *testing.T) {
	r := dice()
	for _, g := range []grid{cauchy(), gridOf([3][3]int64{{2, 3, 5}, {7, 11, 13}, {17, 19, 23}}), wildGrid(r), wildGrid(r), wildGrid(r)} {
		if len(zeros(g)) != 0 || !matrixOf(t, g).Good() {
			t.Fatalf("%v isn't good", g)
		}
		for place := range 19 {
			h := alone(t, g, place)
			if matrixOf(t, h).Good() {
				t.Errorf("%v is good, though the determinant %d is 0", h, place)
			}
			expectMinors(t, h)
		}
	}
}

// P9.2
func TestGood(t *testing.T) {
	seen := map[bool]int{}
	for _, g := range someGrids(dice(), 300) {
		want := len(zeros(g)) == 0
		if got := matrixOf(t, g).Good(); got != want {
			t.Errorf("%v is good: %v, wanted %v", g, got, want)
		}
		seen[want]++
	}
	if seen[false] < 100 || seen[true] < 100 {
		t.Errorf("%v: too few to test it", seen)
	}
	if (matrix.Matrix{}).Good() {
		t.Error("zeros are good")
	}
}

// The chapter's examples.
func TestExamples(t *testing.T) {
	if !matrix.Cauchy().Good() {
		t.Error("Cauchy's isn't good")
	}
	if matrix.Unit().Good() {
		t.Error("Unit's is good")
	}
	for place, a := range matrix.Cauchy().Minors() {
		if a.IsZero() {
			t.Errorf("Cauchy's determinant %d is 0", place)
		}
	}
}
