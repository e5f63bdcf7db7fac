package selection_test

import (
	"testing"

	"gouache/api"
	"gouache/raster"
	"gouache/selection"
)

// ramp returns a tile at a position whose pixels have the alphas of 64 numbers from first on, in steps, each modulo 256.
func ramp(x, y, first, step int, colour uint8) api.TileAt {
	t := api.TileAt{Pos: api.TilePos{X: x, Y: y}}
	for i := range t.Tile {
		if alpha := uint8(first + step*i); alpha > 0 {
			t.Tile[i] = of(colour, colour, 255-colour, alpha)
		}
	}
	return t
}

// P15.5: values by numbers: the greater one, the lesser one, and the product with what is left of 255.
func TestMasks(t *testing.T) {
	a, b := rasterOf(api.TileAt{Tile: api.Tile{of(1, 2, 3, 200), of(4, 5, 6, 100), of(7, 8, 9, 255), {}, of(9, 9, 9, 1)}}), rasterOf(api.TileAt{Tile: api.Tile{of(3, 2, 1, 50), of(6, 5, 4, 200), {}, of(9, 8, 7, 255), of(9, 9, 9, 254)}})
	black := func(values ...uint8) api.Raster {
		var tile api.Tile
		for i, v := range values {
			tile[i].A = v
		}
		return rasterOf(api.TileAt{Tile: tile})
	}
	for _, x := range []struct {
		name      string
		got, want api.Raster
	}{
		{"Union", selection.Union(a, b), black(200, 200, 255, 255, 254)},
		{"Common", selection.Common(a, b), black(50, 100, 0, 0, 1)},
		{"Minus", selection.Minus(a, b), black(161, 22, 255, 0, 0)},
		{"Minus", selection.Minus(b, a), black(11, 122, 0, 255, 253)},
	} {
		if !raster.Equal(x.got, x.want) {
			t.Errorf("%s is %v, not %v", x.name, pixelsOf(x.got), pixelsOf(x.want))
		}
	}
}

// P15.5: all pairs of values.
func TestMasksOfAllValues(t *testing.T) {
	for second := range 256 {
		var a, b []api.TileAt
		for first := range 4 {
			a = append(a, ramp(first, 0, 64*first, 1, 9))
			if second > 0 {
				b = append(b, solid(first, 0, of(200, 100, 50, uint8(second))))
			}
		}
		expectCombined(t, rasterOf(a...), rasterOf(b...))
		expectCombined(t, rasterOf(b...), rasterOf(a...))
	}
}

// P15.5: pairs of rasters of all kinds, empty ones and ones of other colours among them, also with themselves.
func TestMasksOfManyRasters(t *testing.T) {
	for _, a := range rasters() {
		for _, b := range rasters() {
			expectCombined(t, a, b)
		}
		expectCombined(t, a, a)
	}
	for seed := range 40 {
		expectCombined(t, scatteredRaster(seed, seed, false), scatteredRaster(seed+1000, 40-seed, seed%3 == 0))
	}
}

// P15.5: rasters that are not valid are empty, on either side.
func TestMasksOfInvalidRasters(t *testing.T) {
	for _, bad := range invalidRasters() {
		for _, r := range append(rasters(), bad) {
			expectCombined(t, bad, r)
			expectCombined(t, r, bad)
		}
		if got := selection.Union(bad, bad); len(got.Tiles) != 0 {
			t.Errorf("the union of a raster that is not valid with itself has %d tiles", len(got.Tiles))
		}
	}
}

// P15.5: rasters without a common tile, and with tiles of which some or all pixels are transparent in the result.
func TestMasksOfDistantTiles(t *testing.T) {
	a, b := rasterOf(ramp(0, 0, 1, 3, 5), ramp(2, 0, 7, 5, 6), ramp(-8192, -8192, 5, 5, 5)), rasterOf(ramp(1, 0, 1, 2, 5), ramp(0, 2, 9, 9, 9), ramp(8191, 8191, 1, 1, 1))
	expectCombined(t, a, b)
	if got := selection.Common(a, b); len(got.Tiles) != 0 {
		t.Errorf("without a common tile, there are %d tiles", len(got.Tiles))
	}
	if got := selection.Union(a, b); len(got.Tiles) != 6 {
		t.Errorf("of 6 tiles, the union has %d", len(got.Tiles))
	}
	// Pixels that only one of the rasters has, in a tile that both have.
	left, right := drawn(0, 0, "999", "   ", "999"), drawn(0, 0, "   ", "999", "   ")
	expectCombined(t, left, right)
	if got := selection.Common(left, right); len(got.Tiles) != 0 {
		t.Errorf("without a common pixel, there are %d tiles", len(got.Tiles))
	}
	// Nothing is left beside opaque pixels, and what is left beside others may be rounded to nothing.
	for _, x := range []struct {
		a, b uint8
		want int
	}{{255, 255, 0}, {1, 255, 0}, {1, 128, 0}, {1, 127, 1}, {2, 192, 0}, {2, 191, 1}, {255, 254, 1}, {255, 1, 254}, {100, 100, 61}} {
		one, other := rows(3, -1, 4, of(1, 2, 3, x.a)), rows(3, -1, 4, of(3, 2, 1, x.b))
		expectCombined(t, one, other)
		if got := selection.Minus(one, other); int(raster.Get(got, 0, 32).A) != x.want {
			t.Errorf("%d minus %d is %v", x.a, x.b, raster.Get(got, 0, 32))
		}
	}
}

// P15.5: of more than 1024 tiles, the first ones in the order of a raster are returned.
func TestUnionOfManyTiles(t *testing.T) {
	black, red := of(0, 0, 0, 200), of(255, 0, 0, 100)
	full := rows(1024, 0, 0, black)
	for _, other := range []api.Raster{
		rows(1, 32, 31, red), rows(1, 0, 32, red), rows(1, 32, 0, red), rows(1, -1, 31, red), rows(1, 5, -1, red), rows(1024, 0, 32, red), rows(1024, -16, -16, red), rows(1024, -32, 0, red), {},
	} {
		expectCombined(t, full, other)
		if len(other.Tiles) < 9 {
			expectCombined(t, other, full)
		}
		if got := selection.Union(full, other); len(got.Tiles) != 1024 {
			t.Errorf("the union has %d tiles", len(got.Tiles))
		}
	}
	if got := selection.Union(full, rows(1, 5, -1, red)); got.Tiles[0].Pos != (api.TilePos{X: 5, Y: -1}) || got.Tiles[1023].Pos != (api.TilePos{X: 30, Y: 31}) {
		t.Errorf("the union begins with %v and ends with %v", got.Tiles[0].Pos, got.Tiles[1023].Pos)
	}
	// Tiles that are left over have no effect on the others.
	almost := rows(1023, 0, 0, black)
	expectCombined(t, almost, rows(1, 0, 40, red))
	expectCombined(t, almost, rows(2, 0, 40, red))
	// The tiles that Common and Minus return are those of one of the rasters.
	if got := selection.Minus(full, rows(1024, 64, 64, red)); len(got.Tiles) != 1024 {
		t.Errorf("%d tiles are left of 1024", len(got.Tiles))
	}
}

// P15.5: the values of the inverse within a rectangle.
func TestInverse(t *testing.T) {
	a := drawn(0, 0, "19", "05")
	got, err := selection.Inverse(a, box(-1, 0, 2, 2))
	want := map[api.Point]uint8{pt(-1, 0): 255, pt(0, 0): 227, pt(1, 0): 3, pt(-1, 1): 255, pt(0, 1): 255, pt(1, 1): 115}
	for y := -2; y < 4; y++ {
		for x := -3; x < 4; x++ {
			if p := raster.Get(got, x, y); p != of(0, 0, 0, want[pt(x, y)]) || err != api.OK {
				t.Errorf("at (%d, %d), there is %v", x, y, p)
			}
		}
	}
}

// P15.5: rectangles of all kinds, with rasters of all kinds.
func TestInverseOfManyRasters(t *testing.T) {
	rects := []api.Rect{
		box(0, 0, 1, 1), box(0, 0, 8, 8), box(-1, -1, 1, 1), box(-20, -3, 5, 40), box(-128, -128, 128, 128), box(-129, -128, 127, 128), box(0, 0, 256, 1), box(0, 0, 257, 1), box(0, 0, 1, 256), box(0, 0, 1, 257), box(0, 0, 257, 257), box(1, 1, 257, 257),
		box(lowest, lowest, lowest+9, lowest+9), box(highest-9, highest-9, highest, highest), box(lowest, highest-1, lowest+1, highest), box(lowest, lowest, highest, highest),
		{}, box(5, 5, 5, 9), box(5, 5, 9, 5), box(9, 5, 5, 9), box(5, 9, 9, 5), box(9, 9, 5, 5), box(lowest-1, 0, lowest, 1), box(0, lowest-1, 1, lowest+5), box(highest, 0, highest+1, 1), box(0, highest-5, 1, highest+1), box(lowest-1, lowest-1, highest+1, highest+1),
		box(least, least, greatest, greatest), box(greatest, 0, least, 1), box(least, 0, least+1, 1), box(0, greatest-1, 1, greatest), box(greatest, greatest, least, least), box(1000, 0, 0, 1000),
	}
	for _, r := range rects {
		for _, a := range append(rasters(), invalidRasters()...) {
			expectInverse(t, a, r)
		}
	}
	for seed := range 40 {
		next := scatter(seed)
		x, y := next(80)-40, next(80)-40
		expectInverse(t, scatteredRaster(seed, 40, seed%2 == 0), box(x, y, x+1+next(100), y+1+next(100)))
	}
}

// P15.5: opaque pixels leave nothing, so that there may be room for the other tiles.
func TestInverseOfManyTiles(t *testing.T) {
	black := of(9, 9, 9, 255)
	r := box(1, 0, 257, 256)
	for n := 30; n <= 34; n++ {
		var tiles []api.TileAt
		for i := range n {
			tiles = append(tiles, solid(i%16, 2*(i/16), black))
		}
		_, err := inverse(rasterOf(tiles...), r)
		if (err == api.ErrMany) != (n < 32) {
			t.Fatalf("without %d of 1056 tiles, the model returns the error %d", n, err)
		}
		expectInverse(t, rasterOf(tiles...), r)
	}
	expectInverse(t, rows(1024, 0, 0, black), box(0, 0, 256, 256))
	expectInverse(t, rows(1024, 0, 0, of(9, 9, 9, 254)), box(0, 0, 256, 256))
	expectInverse(t, rows(1024, 0, 0, black), box(-1, -1, 255, 255))
}
