package matrix

import "avouch/field"

// filled gives the matrix whose elements a function tells, by row and column.
func filled(tell func(i, j int) field.Element) Matrix {
	var m Matrix
	for i := range Width {
		for j := range Width {
			m[i][j] = tell(i, j)
		}
	}
	return m
}

// everywhere gives what a function tells of all places, by rows, then by columns.
func everywhere(tell func(i, j int) field.Element) []field.Element {
	var out []field.Element
	for _, row := range filled(tell) {
		out = append(out, row[:]...)
	}
	return out
}

// at gives the determinant of one row: its element.
func (m Matrix) at(i, j int) field.Element { return m[i][j] }

// without gives the determinant of the two rows that are left without row i and column j.
func (m Matrix) without(i, j int) field.Element {
	upper, lower := others(i)
	left, right := others(j)
	return m[upper][left].Mul(m[lower][right]).Sub(m[upper][right].Mul(m[lower][left]))
}

// others gives the two places that are left without one, rising.
func others(place int) (int, int) {
	switch place {
	case 0:
		return 1, 2
	case 1:
		return 0, 2
	default:
		return 0, 1
	}
}

// column gives the elements of the column j, from the row 0 on.
func (m Matrix) column(j int) Vector {
	var out Vector
	for i, row := range m {
		out[i] = row[j]
	}
	return out
}

// times gives the sum of the products of two vectors' elements that have the same place.
func (v Vector) times(w Vector) field.Element {
	var sum field.Element
	for k, e := range v {
		sum = sum.Add(e.Mul(w[k]))
	}
	return sum
}
