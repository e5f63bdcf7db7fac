package selection

import (
	"cmp"
	"iter"
	"maps"
	"slices"

	"gouache/api"
	"gouache/rect"
)

// set is a set of pixels.
type set map[api.Point]bool

// Outline returns the polygons that separate the pixels of r whose alpha is at least a threshold from the other ones.
func Outline(r api.Raster, threshold int) [][]api.Point {
	// The set would contain every pixel that the raster does not have.
	if threshold < 1 {
		return nil
	}
	s := setOf(r, threshold)
	var polygons [][]api.Point
	followed := map[edge]bool{}
	for start := range s.upperEdges() {
		if followed[start] {
			continue
		}
		polygon := slices.Collect(s.edgesFrom(start))
		for _, e := range polygon {
			followed[e] = true
		}
		polygons = append(polygons, corners(polygon))
	}
	return polygons
}

// setOf returns the set of the pixels of r whose alpha is at least a threshold.
func setOf(r api.Raster, threshold int) set {
	s := set{}
	for _, at := range tilesOf(r) {
		covered := rect.Of(at.Pos)
		for i, p := range at.Tile {
			if int(p.A) >= threshold {
				s[api.Point{X: covered.X0 + i%api.TileSize, Y: covered.Y0 + i/api.TileSize}] = true
			}
		}
	}
	return s
}

// upperEdges yields the upper edges of pixels of the set that separate them from others, row by row.
func (s set) upperEdges() iter.Seq[edge] {
	return func(yield func(edge) bool) {
		for _, p := range slices.SortedFunc(maps.Keys(s), compareRows) {
			upper := edge{p, api.Point{X: p.X + 1, Y: p.Y}}
			if s.separates(upper) && !yield(upper) {
				return
			}
		}
	}
}

// edgesFrom yields the edges of the polygon that begins with an edge.
func (s set) edgesFrom(start edge) iter.Seq[edge] {
	return func(yield func(edge) bool) {
		for e := start; yield(e); {
			e = s.next(e)
			// The first corner may also be reached along another edge than the one that leads on to the first edge.
			if e == start {
				return
			}
		}
	}
}

// compareRows orders points by Y, then by X.
func compareRows(a, b api.Point) int {
	return cmp.Or(cmp.Compare(a.Y, b.Y), cmp.Compare(a.X, b.X))
}

// next returns the edge that follows e: the one farthest to the right.
func (s set) next(e edge) edge {
	d := e.direction()
	right, left := api.Point{X: -d.Y, Y: d.X}, api.Point{X: d.Y, Y: -d.X}
	for _, turned := range [...]api.Point{right, d} {
		if following := e.then(turned); s.separates(following) {
			return following
		}
	}
	return e.then(left)
}

// separates reports whether an edge has a pixel of the set on its right-hand side, and another pixel on its left-hand side.
func (s set) separates(e edge) bool {
	return s[e.right()] && !s[edge{e.to, e.from}.right()]
}

// direction returns the vector from the first corner of an edge to the second one.
func (e edge) direction() api.Point {
	return api.Point{X: e.to.X - e.from.X, Y: e.to.Y - e.from.Y}
}

// then returns the edge that leads on from e in a direction.
func (e edge) then(direction api.Point) edge {
	return edge{e.to, api.Point{X: e.to.X + direction.X, Y: e.to.Y + direction.Y}}
}

// right returns the pixel on the right-hand side of an edge along the side of a pixel.
func (e edge) right() api.Point {
	// From the first corner, it is half a step in the direction and half a step to the right to the centre of the pixel, and from there half a step upwards and to the left to its coordinates.
	d := e.direction()
	return api.Point{X: e.from.X + (d.X-d.Y-1)/2, Y: e.from.Y + (d.Y+d.X-1)/2}
}

// corners returns the points at which the edges of a polygon change their direction.
func corners(polygon []edge) []api.Point {
	var points []api.Point
	before := polygon[len(polygon)-1]
	for _, e := range polygon {
		if e.direction() != before.direction() {
			points = append(points, e.from)
		}
		before = e
	}
	return points
}
