package matrix_test

import (
	"math/big"
	"testing"

	"avouch/field"
	"avouch/matrix"
)

// applied is the chapter's sum, of m[i][j] times v[j].
func applied(g grid, v vector) vector {
	var out vector
	for i := range 3 {
		sum := new(big.Int)
		for j := range 3 {
			sum.Add(sum, new(big.Int).Mul(g[i][j], v[j]))
		}
		out[i] = rest(sum)
	}
	return out
}

// multiplied is the chapter's sum, of m[i][k] times n[k][j].
func multiplied(g, h grid) grid {
	return gridBy(func(i, j int) *big.Int {
		sum := new(big.Int)
		for k := range 3 {
			sum.Add(sum, new(big.Int).Mul(g[i][k], h[k][j]))
		}
		return rest(sum)
	})
}

// P9.1
func TestCauchy(t *testing.T) {
	m := matrix.Cauchy()
	for i := range 3 {
		for j := range 3 {
			product := m[i][j].Mul(field.FromUint64(uint64(i + j + 3)))
			expectElement(t, [2]int{i, j}, product, big.NewInt(1))
		}
	}
	expectMatrix(t, "Cauchy", m, cauchy())
}

// P9.1
func TestUnit(t *testing.T) {
	m := matrix.Unit()
	for i := range 3 {
		for j := range 3 {
			want := int64(0)
			if i == j {
				want = 1
			}
			expectElement(t, [2]int{i, j}, m[i][j], big.NewInt(want))
		}
	}
}

// P9.1; K5: the two are made anew each time.
func TestCauchyAndUnitAgain(t *testing.T) {
	for i := range 3 {
		for j := range 3 {
			c, u := matrix.Cauchy(), matrix.Unit()
			c[i][j], u[i][j] = field.FromUint64(9), field.FromUint64(9)
			expectMatrix(t, "Cauchy again", matrix.Cauchy(), cauchy())
			expectMatrix(t, "Unit again", matrix.Unit(), unit())
		}
	}
}

// P9.1
func TestApply(t *testing.T) {
	r := dice()
	minusOne := less(prime(), big.NewInt(1))
	for _, g := range someGrids(r, 100) {
		m := matrixOf(t, g)
		for _, v := range []vector{
			{big.NewInt(0), big.NewInt(0), big.NewInt(0)}, {big.NewInt(1), big.NewInt(1), big.NewInt(1)}, {minusOne, minusOne, minusOne},
			{big.NewInt(0), big.NewInt(1), minusOne}, {minusOne, big.NewInt(0), big.NewInt(1)}, {big.NewInt(2), big.NewInt(3), big.NewInt(5)},
			anyVector(r), anyVector(r),
		} {
			expectVector(t, "Apply", m.Apply(vectorOf(t, v)), applied(g, v))
		}
	}
}

// P9.1: each element of the vector tells its own column.
func TestApplyToOneElementAlone(t *testing.T) {
	r := dice()
	for range 20 {
		g := wildGrid(r)
		for j := range 3 {
			v := vector{big.NewInt(0), big.NewInt(0), big.NewInt(0)}
			v[j] = big.NewInt(1)
			got := matrixOf(t, g).Apply(vectorOf(t, v))
			expectVector(t, j, got, vector{g[0][j], g[1][j], g[2][j]})
		}
	}
}

// P9.1: Unit changes no vector, and a matrix without anything leaves none.
func TestApplyOfUnitAndOfZeros(t *testing.T) {
	r := dice()
	for range 50 {
		v := anyVector(r)
		expectVector(t, "Unit", matrix.Unit().Apply(vectorOf(t, v)), v)
		expectVector(t, "zeros", matrix.Matrix{}.Apply(vectorOf(t, v)), vector{new(big.Int), new(big.Int), new(big.Int)})
	}
}

// P9.1
func TestMul(t *testing.T) {
	r := dice()
	all := someGrids(r, 100)
	for _, g := range all {
		for _, h := range []grid{all[r.Intn(len(all))], all[r.Intn(len(all))], mirrored(g), g, anyGrid(r), wildGrid(r)} {
			m, n := matrixOf(t, g), matrixOf(t, h)
			expectMatrix(t, "Mul", m.Mul(n), multiplied(g, h))
			expectMatrix(t, "Mul, the other way round", n.Mul(m), multiplied(h, g))
		}
	}
}

// P9.1: one element alone of either, so that each product is seen by itself.
func TestMulOfSingleElements(t *testing.T) {
	three, five := big.NewInt(3), big.NewInt(5)
	zeros := gridOf([3][3]int64{})
	for place := range 81 {
		i, k, l, j := place/27, place/9%3, place/3%3, place%3
		m, n := matrixOf(t, with(zeros, i, k, three)), matrixOf(t, with(zeros, l, j, five))
		want := zeros
		if k == l {
			want = with(zeros, i, j, big.NewInt(15))
		}
		expectMatrix(t, [4]int{i, k, l, j}, m.Mul(n), want)
	}
}

// P9.1
func TestMulWithUnitOnEitherSide(t *testing.T) {
	for _, g := range someGrids(dice(), 50) {
		m := matrixOf(t, g)
		expectMatrix(t, "Unit behind", m.Mul(matrix.Unit()), g)
		expectMatrix(t, "Unit ahead", matrix.Unit().Mul(m), g)
		expectMatrix(t, "zeros behind", m.Mul(matrix.Matrix{}), gridOf([3][3]int64{}))
		expectMatrix(t, "zeros ahead", matrix.Matrix{}.Mul(m), gridOf([3][3]int64{}))
	}
}

// P9.1: known from elsewhere: a matrix that isn't its own mirror image, and one that changes columns, or rows.
func TestMulChangesRowsOrColumns(t *testing.T) {
	m := matrixOf(t, gridOf([3][3]int64{{1, 2, 3}, {4, 5, 6}, {7, 8, 10}}))
	n := matrixOf(t, gridOf([3][3]int64{{0, 1, 0}, {0, 0, 1}, {1, 0, 0}}))
	expectMatrix(t, "columns", m.Mul(n), gridOf([3][3]int64{{3, 1, 2}, {6, 4, 5}, {10, 7, 8}}))
	expectMatrix(t, "rows", n.Mul(m), gridOf([3][3]int64{{4, 5, 6}, {7, 8, 10}, {1, 2, 3}}))
}

// P9.1: two matrices, one behind the other, do what their product does.
func TestApplyOfAProduct(t *testing.T) {
	r := dice()
	for range 100 {
		m, n, v := matrixOf(t, anyGrid(r)), matrixOf(t, wildGrid(r)), vectorOf(t, anyVector(r))
		expectVector(t, "the product's", m.Mul(n).Apply(v), vectorNumbers(m.Apply(n.Apply(v))))
	}
}

// K5, of P9.1 and P9.2: what is handed in is as it was.
func TestNothingIsChanged(t *testing.T) {
	r := dice()
	for _, g := range someGrids(r, 20) {
		h, v := anyGrid(r), anyVector(r)
		m, n, w := matrixOf(t, g), matrixOf(t, h), vectorOf(t, v)
		m.Apply(w)
		m.Mul(n)
		m.Mul(m)
		m.Determinant()
		clear(m.Minors())
		m.Good()
		expectMatrix(t, "the first one", m, g)
		expectMatrix(t, "the second one", n, h)
		expectVector(t, "the vector", w, v)
	}
}

// K5, of P9.1: what is answered isn't what was handed in.
func TestAnswersAreNew(t *testing.T) {
	g := gridOf([3][3]int64{{1, 2, 3}, {4, 5, 6}, {7, 8, 10}})
	m, u := matrixOf(t, g), matrix.Unit()
	v := vectorOf(t, vector{big.NewInt(1), big.NewInt(2), big.NewInt(3)})
	ahead, behind, same := u.Mul(m), m.Mul(u), u.Apply(v)
	ahead[0][0], behind[1][1], same[2] = field.FromUint64(50), field.FromUint64(51), field.FromUint64(52)
	expectMatrix(t, "the matrix", m, g)
	expectMatrix(t, "Unit", u, unit())
	expectVector(t, "the vector", v, vector{big.NewInt(1), big.NewInt(2), big.NewInt(3)})
	m[2][0], v[0] = field.FromUint64(53), field.FromUint64(54)
	expectMatrix(t, "the product", ahead, with(g, 0, 0, big.NewInt(50)))
	expectVector(t, "the vector behind", same, vector{big.NewInt(1), big.NewInt(2), big.NewInt(52)})
}

// K6, of P9.1 and P9.2: calls of other matrices between change nothing.
func TestSameCallsSameAnswers(t *testing.T) {
	r := dice()
	for _, g := range someGrids(r, 20) {
		m, n, v := matrixOf(t, g), matrixOf(t, anyGrid(r)), vectorOf(t, anyVector(r))
		applied, multiplied, determinant, good := m.Apply(v), m.Mul(n), m.Determinant(), m.Good()
		n.Apply(applied)
		n.Mul(m)
		n.Determinant()
		n.Good()
		expectVector(t, "Apply again", m.Apply(v), vectorNumbers(applied))
		expectMatrix(t, "Mul again", m.Mul(n), matrixNumbers(multiplied))
		expectElement(t, "Determinant again", m.Determinant(), number(determinant))
		if m.Good() != good {
			t.Errorf("%v: Good answers otherwise than ahead", g)
		}
	}
}
