package selection

import (
	"iter"

	"gouache/api"
	"gouache/rect"
)

// unitsPerPixel is the number of units, in which the points inside of pixels have integer coordinates, of the side of a pixel.
const unitsPerPixel = 8

// edge is a line from a corner of a polygon to the next one.
type edge struct{ from, to api.Point }

// edges yields the edges of polygons. A polygon of one point has one edge, from this point to itself.
func edges(paths ...[]api.Point) iter.Seq[edge] {
	return func(yield func(edge) bool) {
		for _, path := range paths {
			for i, corner := range path {
				if !yield(edge{corner, path[(i+1)%len(path)]}) {
					return
				}
			}
		}
	}
}

// hull returns the rectangle from the least to the greatest coordinates of points within the limits. Its sides may have the length 0, and less than this if there are no points.
func hull(paths ...[]api.Point) api.Rect {
	r := api.Rect{X0: api.MaxCoord, Y0: api.MaxCoord, X1: -api.MaxCoord, Y1: -api.MaxCoord}
	for e := range edges(paths...) {
		r.X0, r.Y0 = min(r.X0, e.from.X), min(r.Y0, e.from.Y)
		r.X1, r.Y1 = max(r.X1, e.from.X), max(r.Y1, e.from.Y)
	}
	return r
}

// lattice is a rectangle of points at equal distances. Coordinates and distances are in units.
type lattice struct {
	left, top, step int
	columns, rows   int
}

// latticeOf returns the lattice that has side * side points in each pixel of r, whose outermost ones are half a step away from the sides of the pixel.
func latticeOf(r api.Rect, side int) lattice {
	step := unitsPerPixel / side
	return lattice{
		left:    unitsPerPixel*r.X0 + step/2,
		top:     unitsPerPixel*r.Y0 + step/2,
		step:    step,
		columns: side * (r.X1 - r.X0),
		rows:    side * (r.Y1 - r.Y0),
	}
}

// pointsInside returns, for each pixel of r, row by row, how many of its side * side points are inside the polygons that have these edges.
func pointsInside(edges iter.Seq[edge], r api.Rect, side int) []int {
	l := latticeOf(r, side)
	crossings := make([]bool, l.rows*l.columns)
	for e := range edges {
		l.cross(e, crossings)
	}
	counts := make([]int, rect.Area(r))
	for row := range l.rows {
		// From the right to the left, each point has one more crossing than the point before, or none.
		isInside := false
		for column := l.columns - 1; column >= 0; column-- {
			isInside = isInside != crossings[row*l.columns+column]
			if isInside {
				counts[row/side*(r.X1-r.X0)+column/side]++
			}
		}
	}
	return counts
}

// cross changes, in each row of which some points lie to the left of an edge, the parity of crossings that is noted for the last one of these points. It stands for the points to the left of it as well.
func (l lattice) cross(e edge, crossings []bool) {
	upper, lower := e.from, e.to
	if upper.Y > lower.Y {
		upper, lower = lower, upper
	}
	dx, dy := lower.X-upper.X, lower.Y-upper.Y
	for row := l.rowsAbove(upper.Y); row < l.rowsAbove(lower.Y); row++ {
		down := l.top + row*l.step - unitsPerPixel*upper.Y
		count := rect.Ceil((unitsPerPixel*upper.X-l.left)*dy+down*dx, l.step*dy)
		if count > 0 {
			last := row*l.columns + min(count, l.columns) - 1
			crossings[last] = !crossings[last]
		}
	}
}

// rowsAbove returns the number of rows above the upper sides of the pixels with this coordinate.
func (l lattice) rowsAbove(y int) int {
	return min(max(rect.Ceil(unitsPerPixel*y-l.top, l.step), 0), l.rows)
}
