package selection_test

import (
	"slices"
	"testing"

	"gouache/api"
	"gouache/selection"
)

// expectInvalid reports a polygon that a call accepts, or rejects in another way.
func expectInvalid(t *testing.T, polygon []api.Point) {
	t.Helper()
	before := slices.Clone(polygon)
	if selection.Valid(polygon) {
		t.Fatalf("%v is valid", polygon)
	}
	if got := selection.Bounds(polygon); got != (api.Rect{}) {
		t.Fatalf("Bounds of %v is %v", polygon, got)
	}
	for _, p := range [][2]int{{0, 0}, {-1, 2}, {3, 3}, {lowest, highest - 1}, {lowest - 1, highest}, {least, greatest}} {
		if got := selection.Cover(polygon, p[0], p[1]); got != 0 {
			t.Fatalf("Cover of %v by %v is %d", p, polygon, got)
		}
	}
	for _, p := range []api.Pixel{{}, of(1, 2, 3, 4), of(9, 9, 9, 0)} {
		expectFill(t, polygon, p, api.Raster{}, api.ErrArg)
	}
	if !slices.Equal(polygon, before) {
		t.Fatalf("a call changes %v", before)
	}
}

// expectValid reports a valid polygon that a call does not accept.
func expectValid(t *testing.T, polygon []api.Point) {
	t.Helper()
	before := slices.Clone(polygon)
	if !selection.Valid(polygon) {
		t.Fatalf("%v is not valid", polygon)
	}
	if got := selection.Bounds(polygon); got != bounds(polygon) {
		t.Fatalf("Bounds of %v is %v, not %v", polygon, got, bounds(polygon))
	}
	if _, err := selection.Fill(polygon, of(1, 2, 3, 4)); err == api.ErrArg {
		t.Fatalf("Fill of %v returns ErrArg", polygon)
	}
	if !slices.Equal(polygon, before) {
		t.Fatalf("a call changes %v", before)
	}
}

// P15.1: numbers of points.
func TestValidNumbers(t *testing.T) {
	for n := range 70 {
		for _, polygon := range [][]api.Point{winding(n), around(n, 20), make([]api.Point, n)} {
			if n >= 3 && n <= 64 {
				expectValid(t, polygon)
			} else {
				expectInvalid(t, polygon)
			}
		}
	}
}

// P15.1: valid polygons of all kinds, and ones with a single fault.
func TestValid(t *testing.T) {
	for _, polygon := range polygons() {
		expectValid(t, polygon)
	}
	for _, polygon := range invalidPolygons() {
		expectInvalid(t, polygon)
	}
	for seed := range 200 {
		expectValid(t, scatteredPolygon(seed))
	}
}

// P15.1: each coordinate of the first, a middle and the last point, at the limits and one beyond them.
func TestValidAtLimits(t *testing.T) {
	for _, polygon := range [][]api.Point{path(0, 0, 7, 3, 2, 9), square(0, 0, 2, 1), winding(64)} {
		for _, index := range []int{0, 1, len(polygon) / 2, len(polygon) - 1} {
			for _, n := range []int{lowest, highest} {
				expectValid(t, replaced(polygon, index, pt(n, polygon[index].Y)))
				expectValid(t, replaced(polygon, index, pt(polygon[index].X, n)))
				expectValid(t, replaced(polygon, index, pt(n, n)))
				expectValid(t, replaced(polygon, index, pt(n, -n)))
			}
			for _, n := range []int{lowest - 1, highest + 1} {
				expectInvalid(t, replaced(polygon, index, pt(n, polygon[index].Y)))
				expectInvalid(t, replaced(polygon, index, pt(polygon[index].X, n)))
			}
		}
	}
	expectValid(t, square(lowest, lowest, highest, highest))
	expectInvalid(t, square(lowest-1, lowest, highest, highest))
	expectInvalid(t, square(lowest, lowest, highest, highest+1))
	expectInvalid(t, square(least, least, greatest, greatest))
}

// P15.1: the rectangle from the least to the greatest coordinates.
func TestBounds(t *testing.T) {
	for _, x := range []struct {
		polygon []api.Point
		want    api.Rect
	}{
		{path(0, 0, 7, 3, 2, 9), box(0, 0, 7, 9)},
		{path(7, 3, 2, 9, 0, 0), box(0, 0, 7, 9)},
		{path(-5, 4, 3, -8, 3, 4), box(-5, -8, 3, 4)},
		{path(-5, -7, -3, -8, -4, -9), box(-5, -9, -3, -7)},
		{square(lowest, lowest, highest, highest), box(lowest, lowest, highest, highest)},
		{path(highest, lowest, highest-1, lowest, highest, lowest+1), box(highest-1, lowest, highest, lowest+1)},
		// Lines: a slanting one has bounds, although it has no area.
		{path(0, 0, 3, 3, 8, 8), box(0, 0, 8, 8)},
		{path(0, 0, 1, 1, 0, 0), box(0, 0, 1, 1)},
		{path(0, 0, 5, 0, 9, 0), api.Rect{}},
		{path(0, 0, 0, 7, 0, 3), api.Rect{}},
		{path(lowest, 5, highest, 5, 0, 5), api.Rect{}},
		{path(3, 4, 3, 4, 3, 4), api.Rect{}},
		{path(highest, highest, highest, highest, highest, highest), api.Rect{}},
	} {
		if got := selection.Bounds(x.polygon); got != x.want {
			t.Errorf("Bounds of %v is %v, not %v", x.polygon, got, x.want)
		}
	}
}
