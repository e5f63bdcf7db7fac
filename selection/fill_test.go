package selection_test

import (
	"testing"

	"gouache/api"
	"gouache/raster"
	"gouache/selection"
)

// colours returns pixels of all kinds: opaque, half transparent, faint and transparent ones, and one with the colour that a transparent pixel must not have.
func colours() []api.Pixel {
	return []api.Pixel{of(200, 100, 50, 255), of(1, 2, 3, 128), of(255, 255, 255, 2), of(9, 8, 7, 1), {}, of(200, 100, 50, 0)}
}

// P15.2: numbers from the definitions of Cover and Fade.
func TestFill(t *testing.T) {
	r, err := selection.Fill(path(0, 0, 1, 0, 0, 1), of(10, 20, 30, 200))
	if want := rasterOf(api.TileAt{Tile: api.Tile{of(10, 20, 30, 75)}}); err != api.OK || !raster.Equal(r, want) {
		t.Errorf("a corner of a pixel: %v, error %d", pixelsOf(r), err)
	}
	expectFill(t, square(-8, -8, 0, 0), of(1, 2, 3, 4), rows(1, -1, -1, of(1, 2, 3, 4)), api.OK)
}

// P15.2: polygons of all kinds, in colours of all kinds.
func TestFillOfManyPolygons(t *testing.T) {
	for i, polygon := range polygons() {
		for _, p := range colours() {
			expectFilled(t, polygon, p)
		}
		expectFilled(t, reversed(polygon), of(1, 2, 3, 255))
		expectFilled(t, moved(polygon, 40*i-800, 500-30*i), of(1, 2, 3, 255))
	}
	for seed := range 100 {
		expectFilled(t, scatteredPolygon(seed), colours()[seed%4])
	}
}

// P15.2: polygons that are not valid, some of which have sides that are too long.
func TestFillOfInvalidPolygons(t *testing.T) {
	for i, polygon := range invalidPolygons() {
		expectFill(t, polygon, colours()[i%6], api.Raster{}, api.ErrArg)
	}
	expectFill(t, path(0, 0, 257, 0), of(1, 2, 3, 4), api.Raster{}, api.ErrArg)
	expectFill(t, append(square(0, 0, 1000, 1000), winding(61)...), of(1, 2, 3, 4), api.Raster{}, api.ErrArg)
	expectFill(t, square(lowest-1, 0, 0, 9), of(1, 2, 3, 4), api.Raster{}, api.ErrArg)
}

// P15.2: sides of 256 and 257, in both directions, and of the whole canvas.
func TestFillOfLongSides(t *testing.T) {
	red := of(255, 0, 0, 255)
	for _, polygon := range [][]api.Point{square(0, 0, 256, 1), square(0, 0, 1, 256), square(-100, 3, 156, 6), square(3, -200, 6, 56), path(0, 0, 256, 9, 3, 50), path(0, 0, 9, 256, 50, 3), path(0, 0, 256, 256, 128, 128)} {
		expectFilled(t, polygon, red)
		if _, err := selection.Fill(polygon, red); err != api.OK {
			t.Errorf("Fill of %v returns the error %d", polygon, err)
		}
	}
	for _, polygon := range [][]api.Point{square(0, 0, 257, 1), square(0, 0, 1, 257), square(-100, 3, 157, 6), square(3, -200, 6, 57), path(0, 0, 257, 9, 3, 50), path(0, 0, 9, 257, 50, 3), square(0, 0, 257, 257), square(lowest, lowest, highest, highest), path(lowest, lowest, highest, lowest, 0, lowest+1)} {
		for _, p := range colours() {
			expectFill(t, polygon, p, api.Raster{}, api.ErrBudget)
		}
	}
}

// P15.2: 1024 tiles, and more of them, some of which may be transparent.
func TestFillOfManyTiles(t *testing.T) {
	red := of(255, 0, 0, 255)
	expectFill(t, square(-128, -128, 128, 128), red, rows(1024, -16, -16, red), api.OK)
	for _, polygon := range [][]api.Point{square(-127, -128, 129, 128), square(-128, -127, 128, 129), square(1, 1, 257, 257), square(7, 7, 263, 263)} {
		expectFill(t, polygon, red, api.Raster{}, api.ErrMany)
		expectFill(t, polygon, of(0, 0, 0, 1), api.Raster{}, api.ErrMany)
		expectFill(t, polygon, api.Pixel{}, api.Raster{}, api.OK)
		expectFill(t, polygon, of(9, 9, 9, 0), api.Raster{}, api.OK)
	}
	// A triangle touches the same tiles only in part.
	expectFilled(t, path(1, 1, 257, 1, 1, 257), red)
	// The bounds touch 33 tiles in each of 32 rows, but the last two columns of them are empty except in the last n rows.
	for n := 15; n <= 17; n++ {
		polygon := path(1, 0, 248, 0, 248, 256-8*n, 257, 256-8*n, 257, 256, 1, 256)
		want, err := filled(polygon, red)
		if err == api.OK && len(want.Tiles) != 992+2*n || (err == api.ErrMany) != (n > 16) {
			t.Fatalf("the model returns %d tiles and the error %d for %v", len(want.Tiles), err, polygon)
		}
		expectFill(t, polygon, red, want, err)
	}
}

// P15.2: faint colours, which some coverages make transparent, so that fewer tiles are left.
func TestFillInFaintColours(t *testing.T) {
	faint := of(50, 60, 70, 1)
	// Coverages of less than 128 make an alpha of 1 transparent.
	for _, x := range []struct {
		polygon []api.Point
		want    api.Raster
	}{
		{path(0, 0, 1, 0, 0, 1), api.Raster{}},
		{path(0, 0, 1, 0, 1, 1), rasterOf(api.TileAt{Tile: api.Tile{faint}})},
	} {
		expectFill(t, x.polygon, faint, x.want, api.OK)
	}
	for seed := range 60 {
		expectFilled(t, scatteredPolygon(seed), of(3, 2, 1, uint8(seed%4)))
	}
}

// P15.2: polygons without an area. Those on a horizontal or vertical line have no bounds, so that no side of these is too long.
func TestFillOfNothing(t *testing.T) {
	for _, polygon := range [][]api.Point{
		path(0, 0, 5, 0, 9, 0), path(0, 0, 0, 7, 0, 3), path(3, 3, 3, 3, 3, 3), path(0, 0, 8, 8, 3, 3), path(0, 0, 256, 256, 0, 0), path(1, 1, 257, 257, 1, 1), path(0, 0, 4, 0, 4, 4, 0, 4, 0, 0, 4, 0, 4, 4, 0, 4),
		path(0, 0, 257, 0, 9, 0), path(5, lowest, 5, highest, 5, 0), path(lowest, highest, highest, highest, 0, highest),
	} {
		for _, p := range colours() {
			expectFill(t, polygon, p, api.Raster{}, api.OK)
		}
	}
	expectFill(t, path(0, 0, 257, 257, 0, 0), of(1, 2, 3, 4), api.Raster{}, api.ErrBudget)
}

// P15.2: polygons at the limits of coordinates.
func TestFillAtLimits(t *testing.T) {
	blue := of(0, 0, 255, 255)
	expectFill(t, square(lowest, lowest, lowest+8, lowest+8), blue, rows(1, -8192, -8192, blue), api.OK)
	expectFill(t, square(highest-8, highest-16, highest, highest), blue, rasterOf(solid(8191, 8190, blue), solid(8191, 8191, blue)), api.OK)
	for _, x := range []int{lowest, highest - 7} {
		for _, y := range []int{lowest, highest - 9} {
			for _, polygon := range [][]api.Point{path(0, 0, 7, 3, 2, 9), path(0, 9, 7, 0, 7, 9), square(0, 0, 7, 9)} {
				expectFilled(t, moved(polygon, x, y), of(1, 2, 3, 99))
			}
		}
	}
}
