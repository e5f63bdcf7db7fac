package selection_test

import (
	"slices"
	"testing"

	"gouache/api"
	"gouache/selection"
)

// times returns a list of n equal polygons.
func times(n int, polygon []api.Point) [][]api.Point {
	return slices.Repeat([][]api.Point{polygon}, n)
}

// teeth returns a polygon of n points whose edges all cross the rows from 0 to 8.
func teeth(n int) []api.Point {
	points := make([]api.Point, n)
	for i := range points {
		points[i] = pt(5*i%200, i%2*8)
	}
	return points
}

// P15.4: lists of polygons of all kinds, in colours of all kinds.
func TestInside(t *testing.T) {
	red := of(255, 0, 0, 255)
	expectInside(t, times(1, square(0, 0, 8, 8)), red, rows(1, 0, 0, red), api.OK)
	expectInside(t, times(1, square(1, 2, 3, 3)), red, rasterOf(api.TileAt{Tile: api.Tile{17: red, 18: red}}), api.OK)
	for i, polygon := range polygons() {
		for _, p := range colours() {
			expectPainted(t, times(1, polygon), p)
		}
		expectPainted(t, times(1, reversed(polygon)), red)
		expectPainted(t, times(1, rotated(polygon, i%len(polygon))), red)
		expectPainted(t, times(1, moved(polygon, 40*i-800, 500-30*i)), red)
		expectPainted(t, [][]api.Point{polygon, moved(polygon, 3, 2)}, red)
		expectPainted(t, [][]api.Point{polygon, polygons()[(i+7)%len(polygons())], nil, path(4, 4)}, red)
	}
	for seed := range 300 {
		var paths [][]api.Point
		for n := range 1 + seed%5 {
			paths = append(paths, scatteredPolygon(seed+1000*n))
		}
		expectPainted(t, paths, colours()[seed%4])
	}
}

// P15.4: numbers of points that Inside accepts and the other calls do not.
func TestInsideOfAnyNumber(t *testing.T) {
	red := of(255, 0, 0, 255)
	for n := range 100 {
		expectPainted(t, times(1, winding(n)), red)
		expectPainted(t, times(1, around(n, 20)), red)
	}
	for _, n := range []int{1000, 4095, 4096} {
		expectPainted(t, times(1, teeth(n)), red)
		expectPainted(t, [][]api.Point{square(0, 0, 9, 9), around(n, 30)}, red)
	}
}

// P15.4: no polygons, and polygons without an area.
func TestInsideOfNothing(t *testing.T) {
	for _, paths := range [][][]api.Point{
		nil, {}, {nil}, {{}}, times(1024, nil), {path(3, 4)}, {nil, path(lowest, highest)}, {path(0, 0, 256, 256)}, {path(0, 0, 256, 0, 9, 0)}, {path(0, -256, 0, 0)}, {path(5, 5, 5, 5, 5, 5)}, {path(1, 1, 257, 257, 1, 1)},
		{path(0, 0, 9, 9, 3, 7), path(3, 7, 9, 9, 0, 0)}, {path(0, 0, 9, 0), path(9, 0, 9, 9), path(9, 9, 0, 9), path(0, 9, 0, 0)},
	} {
		for _, p := range colours() {
			expectInside(t, paths, p, api.Raster{}, api.OK)
		}
	}
}

// P15.4: centres of pixels on edges are not inside of what lies to the left of these.
func TestInsideOnEdges(t *testing.T) {
	red := of(255, 0, 0, 255)
	at := func(indices ...int) api.Raster {
		var tile api.Tile
		for _, i := range indices {
			tile[i] = red
		}
		if len(indices) == 0 {
			return api.Raster{}
		}
		return rasterOf(api.TileAt{Tile: tile})
	}
	for _, x := range []struct {
		polygon []api.Point
		want    api.Raster
	}{
		{path(0, 0, 1, 1, 0, 1), at()},
		{path(0, 0, 1, 0, 1, 1), at(0)},
		{path(0, 0, 2, 2, 0, 2), at(8)},
		{path(0, 0, 2, 0, 2, 2), at(0, 1, 9)},
		{path(0, 0, 1, 3, 0, 3), at(16)},
		{path(0, 0, 1, 0, 1, 3), at(0, 8)},
		{path(0, 0, 3, 1, 0, 1), at(0)},
		{path(0, 0, 3, 0, 3, 1), at(1, 2)},
		{path(0, 1, 2, 0, 4, 1, 2, 2), at(1, 2, 9, 10)},
	} {
		expectInside(t, times(1, x.polygon), red, x.want, api.OK)
		expectPainted(t, times(1, x.polygon), red)
	}
}

// P15.4: polygons that lie within one another, overlap or are equal: what an even number of them contains is outside.
func TestInsideOfSeveralPolygons(t *testing.T) {
	red, ink := of(255, 0, 0, 255), of(7, 8, 9, 252)
	outer, inner, innermost := square(0, 0, 8, 8), square(2, 2, 6, 6), square(3, 3, 5, 5)
	for _, x := range []struct {
		paths [][]api.Point
		want  api.Raster
	}{
		{[][]api.Point{outer, inner}, drawn(0, 0, "99999999", "99999999", "99    99", "99    99", "99    99", "99    99", "99999999", "99999999")},
		{[][]api.Point{innermost, outer, reversed(inner)}, drawn(0, 0, "99999999", "99999999", "99    99", "99 99 99", "99 99 99", "99    99", "99999999", "99999999")},
		{[][]api.Point{inner, inner}, api.Raster{}},
		{[][]api.Point{inner, reversed(inner)}, api.Raster{}},
		{[][]api.Point{inner, inner, rotated(inner, 2)}, drawn(2, 2, "9999", "9999", "9999", "9999")},
		{[][]api.Point{square(0, 0, 3, 2), square(1, 1, 5, 3)}, drawn(0, 0, "999", "9  99", " 9999")},
		{[][]api.Point{square(0, 0, 2, 2), square(2, 0, 4, 2)}, drawn(0, 0, "9999", "9999")},
		{[][]api.Point{square(0, 0, 1, 1), square(20, 20, 21, 21)}, rasterOf(append(drawn(0, 0, "9").Tiles, drawn(20, 20, "9").Tiles...)...)},
	} {
		expectInside(t, x.paths, ink, x.want, api.OK)
		expectPainted(t, x.paths, ink)
	}
	for n := range 9 {
		want, _ := inside(times(n%2, winding(20)), red)
		expectInside(t, times(n, winding(20)), red, want, api.OK)
	}
	want, _ := inside(times(1, path(0, 0, 7, 3, 2, 9)), red)
	expectInside(t, times(1023, path(0, 0, 7, 3, 2, 9)), red, want, api.OK)
	expectInside(t, times(1024, path(0, 0, 7, 3, 2, 9)), red, api.Raster{}, api.OK)
}

// P15.4: coordinates beyond the limits, too many points and too many polygons, of each polygon and each point.
func TestInsideOfBadPolygons(t *testing.T) {
	for _, n := range []int{lowest - 1, highest + 1, least, greatest, 1 << 32, -1 << 32} {
		for index := range 3 {
			for place := range 3 {
				paths := times(3, path(0, 0, 7, 3, 2, 9))
				for _, bad := range []api.Point{pt(n, 0), pt(0, n), pt(n, n)} {
					paths[place] = replaced(paths[0], index, bad)
					expectInside(t, paths, colours()[place], api.Raster{}, api.ErrArg)
				}
			}
		}
		expectInside(t, [][]api.Point{{pt(n, 5)}}, api.Pixel{}, api.Raster{}, api.ErrArg)
		expectInside(t, [][]api.Point{nil, {pt(5, n)}}, api.Pixel{}, api.Raster{}, api.ErrArg)
		expectInside(t, times(1, replaced(teeth(4096), 4095, pt(0, n))), of(1, 2, 3, 4), api.Raster{}, api.ErrArg)
	}
	for _, n := range []int{4097, 5000, 100000} {
		expectInside(t, times(1, teeth(n)), of(1, 2, 3, 4), api.Raster{}, api.ErrArg)
		expectInside(t, [][]api.Point{square(0, 0, 1, 1), make([]api.Point, n)}, api.Pixel{}, api.Raster{}, api.ErrArg)
	}
	for _, n := range []int{1025, 2000, 100000} {
		expectInside(t, times(n, square(0, 0, 1, 1)), of(1, 2, 3, 4), api.Raster{}, api.ErrArg)
		expectInside(t, times(n, nil), api.Pixel{}, api.Raster{}, api.ErrArg)
	}
}

// P15.4: the rectangle of all points has sides of 256 or 257, also where no polygon has.
func TestInsideOfLongSides(t *testing.T) {
	red := of(255, 0, 0, 255)
	for _, paths := range [][][]api.Point{
		{square(0, 0, 256, 1)}, {square(-100, 3, -97, 259)}, {path(0, 0, 256, 9, 3, 50)}, {square(0, 0, 9, 9), square(250, 250, 256, 256)}, {square(0, 0, 9, 9), path(256, 3)}, {path(4, -247), square(0, 0, 9, 9)}, {nil, square(0, 0, 256, 256)},
	} {
		expectPainted(t, paths, red)
		if _, err := selection.Inside(paths, red); err != api.OK {
			t.Errorf("Inside of %v returns the error %d", paths, err)
		}
	}
	for _, paths := range [][][]api.Point{
		{square(0, 0, 257, 1)}, {square(-100, 3, -97, 260)}, {path(0, 0, 257, 9, 3, 50)}, {square(0, 0, 9, 9), square(250, 250, 257, 256)}, {square(0, 0, 9, 9), square(250, 250, 256, 257)},
		{square(0, 0, 9, 9), path(257, 3)}, {path(4, -248), square(0, 0, 9, 9)}, {nil, square(lowest, lowest, highest, highest)}, {path(lowest, 0), path(highest, 0)},
		// Points on a horizontal or vertical line have a rectangle of no area, one side of which is too long nevertheless.
		{path(0, 0, 257, 0, 9, 0)}, {path(7, 3, 7, 260)}, {path(0, 5), path(300, 5)},
	} {
		for _, p := range colours() {
			expectInside(t, paths, p, api.Raster{}, api.ErrBudget)
		}
	}
}

// P15.4: 1024 tiles, and more of them, some of which may be transparent.
func TestInsideOfManyTiles(t *testing.T) {
	red := of(255, 0, 0, 255)
	expectInside(t, times(1, square(-128, -128, 128, 128)), red, rows(1024, -16, -16, red), api.OK)
	for _, polygon := range [][]api.Point{square(-127, -128, 129, 128), square(-128, -127, 128, 129), square(1, 1, 257, 257)} {
		expectInside(t, times(1, polygon), red, api.Raster{}, api.ErrMany)
		expectInside(t, times(1, polygon), of(0, 0, 0, 1), api.Raster{}, api.ErrMany)
		expectInside(t, times(1, polygon), api.Pixel{}, api.Raster{}, api.OK)
		expectInside(t, times(1, polygon), of(9, 9, 9, 0), api.Raster{}, api.OK)
		expectInside(t, times(2, polygon), red, api.Raster{}, api.OK)
	}
	for n := 15; n <= 17; n++ {
		paths := [][]api.Point{square(1, 0, 248, 256), square(248, 256-8*n, 257, 256)}
		want, err := inside(paths, red)
		if (err == api.ErrMany) != (n > 16) {
			t.Fatalf("the model returns %d tiles and the error %d for %v", len(want.Tiles), err, paths)
		}
		expectInside(t, paths, red, want, err)
	}
}

// P15.4: the order of errors: limits of the polygons, then the sides, then the tiles.
func TestInsideOrderOfErrors(t *testing.T) {
	red := of(255, 0, 0, 255)
	long, many := square(0, 0, 257, 257), square(1, 1, 257, 257)
	expectInside(t, [][]api.Point{many}, red, api.Raster{}, api.ErrMany)
	expectInside(t, [][]api.Point{many, path(0, 9)}, red, api.Raster{}, api.ErrBudget)
	expectInside(t, [][]api.Point{many, long}, red, api.Raster{}, api.ErrBudget)
	expectInside(t, [][]api.Point{long, path(highest+1, 0)}, red, api.Raster{}, api.ErrArg)
	expectInside(t, [][]api.Point{many, teeth(4097)}, red, api.Raster{}, api.ErrArg)
	expectInside(t, times(1025, long), red, api.Raster{}, api.ErrArg)
}

// P15.4: polygons at the limits of coordinates.
func TestInsideAtLimits(t *testing.T) {
	blue := of(0, 0, 255, 255)
	expectInside(t, times(1, square(lowest, lowest, lowest+8, lowest+8)), blue, rows(1, -8192, -8192, blue), api.OK)
	expectInside(t, times(1, square(highest-8, highest-8, highest, highest)), blue, rows(1, 8191, 8191, blue), api.OK)
	for _, x := range []int{lowest, highest - 7} {
		for _, y := range []int{lowest, highest - 9} {
			for _, polygon := range [][]api.Point{path(0, 0, 7, 3, 2, 9), path(0, 9, 7, 0, 7, 9), square(0, 0, 7, 9)} {
				expectPainted(t, times(1, moved(polygon, x, y)), blue)
				expectPainted(t, [][]api.Point{moved(polygon, x, y), moved(square(1, 1, 6, 8), x, y)}, blue)
			}
		}
	}
}
