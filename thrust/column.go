package thrust

// column is three numbers: of a force in X, one in Y and a moment, or of a direction.
type column [3]int

func (c column) plus(d column, times int) column {
	for k, n := range d {
		c[k] += n * times
	}
	return c
}

func (c column) product(d column) int { return c[0]*d[0] + c[1]*d[1] + c[2]*d[2] }

func (c column) cross(d column) column {
	return column{
		c[1]*d[2] - c[2]*d[1],
		c[2]*d[0] - c[0]*d[2],
		c[0]*d[1] - c[1]*d[0],
	}
}

// sharesFor are the numbers, divided by den, with which columns give what is nearest to a wanted one.
// den is 0 if the columns depend on one another, as more than three always do. It may be below 0.
func sharesFor(columns []column, wanted column) (shares []int, den int) {
	duals, den := dualsOf(columns)
	for _, d := range duals {
		shares = append(shares, d.product(wanted))
	}
	return shares, den
}

// dualsOf are, for each column, one whose product with this column is den, and with the others 0.
// They are themselves sums of multiples of the columns: what is across all columns is across them, too, and adds nothing to shares.
func dualsOf(columns []column) (duals []column, den int) {
	switch len(columns) {
	case 0:
		return nil, 1
	case 1:
		return columns, columns[0].product(columns[0])
	case 2:
		a, b := columns[0], columns[1]
		normal := a.cross(b)
		return []column{b.cross(normal), normal.cross(a)}, normal.product(normal)
	case 3:
		a, b, c := columns[0], columns[1], columns[2]
		return []column{b.cross(c), c.cross(a), a.cross(b)}, a.product(b.cross(c))
	}
	return nil, 0
}
