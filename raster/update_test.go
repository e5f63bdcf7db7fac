package raster_test

import (
	"testing"

	"gouache/api"
	"gouache/raster"
)

// set is Set, which must succeed.
func set(t *testing.T, r api.Raster, x, y int, p api.Pixel) api.Raster {
	t.Helper()
	got, err := raster.Set(r, x, y, p)
	if err != api.OK || !raster.Valid(got) {
		t.Fatalf("Set at (%d, %d) of %v: error %d, raster %v", x, y, p, err, got.Tiles)
	}
	return got
}

// put is Put, which must succeed.
func put(t *testing.T, r api.Raster, x, y int, all api.Tile) api.Raster {
	t.Helper()
	got, err := raster.Put(r, api.TilePos{X: x, Y: y}, all)
	if err != api.OK || !raster.Valid(got) {
		t.Fatalf("Put at (%d, %d) of %v: error %d, raster %v", x, y, all, err, got.Tiles)
	}
	return got
}

// P8.2: tiles before, between and behind those that there are, and in them, whatever the signs of the coordinates.
func TestSet(t *testing.T) {
	a, b, c, d := of(1, 1, 1, 1), of(2, 2, 2, 2), of(3, 3, 3, 3), of(4, 4, 4, 4)
	r := set(t, api.Raster{}, 8, 0, a)
	expectRaster(t, "the first pixel", r, rasterOf(at(1, 0, lit(0, a))))
	r = set(t, r, -1, -1, b)
	expectRaster(t, "a pixel before it", r, rasterOf(at(-1, -1, lit(63, b)), at(1, 0, lit(0, a))))
	r = set(t, r, -9, 15, c)
	expectRaster(t, "a pixel behind it", r, rasterOf(at(-1, -1, lit(63, b)), at(1, 0, lit(0, a)), at(-2, 1, lit(63, c))))
	r = set(t, r, 7, 0, d)
	expectRaster(t, "a pixel in between", r, rasterOf(at(-1, -1, lit(63, b)), at(0, 0, lit(7, d)), at(1, 0, lit(0, a)), at(-2, 1, lit(63, c))))
	r = set(t, r, -8, -8, c)
	both := lit(63, b)
	both[0] = c
	expectRaster(t, "a pixel in a tile", r, rasterOf(at(-1, -1, both), at(0, 0, lit(7, d)), at(1, 0, lit(0, a)), at(-2, 1, lit(63, c))))
	r = set(t, r, 7, 0, c)
	expectRaster(t, "a pixel in place of another one", r, rasterOf(at(-1, -1, both), at(0, 0, lit(7, c)), at(1, 0, lit(0, a)), at(-2, 1, lit(63, c))))
}

// P8.2: each place of a tile.
func TestSetInOneTile(t *testing.T) {
	for y := range 8 {
		for x := range 8 {
			want := different()
			want[8*y+x] = of(9, 9, 9, 9)
			got := set(t, rasterOf(at(-3, 2, different())), x-24, y+16, of(9, 9, 9, 9))
			expectRaster(t, "Set in a tile", got, rasterOf(at(-3, 2, want)))
			got = set(t, api.Raster{}, x-24, y+16, of(9, 9, 9, 9))
			expectRaster(t, "Set in the empty raster", got, rasterOf(at(-3, 2, lit(8*y+x, of(9, 9, 9, 9)))))
		}
	}
}

// P8.2: a transparent pixel is set without its colour.
func TestSetOfTransparentPixels(t *testing.T) {
	for _, invisible := range []api.Pixel{{}, of(1, 2, 3, 0), of(255, 255, 255, 0)} {
		expectRaster(t, "Set in the empty raster", set(t, api.Raster{}, 3, 4, invisible), api.Raster{})
		expectRaster(t, "Set where there is no tile", set(t, many(40), 800, 800, invisible), many(40))
		want := different()
		want[35] = api.Pixel{}
		expectRaster(t, "Set in a tile", set(t, rasterOf(at(0, 0, different())), 3, 4, invisible), rasterOf(at(0, 0, want)))
	}
}

// P8.2: a tile loses its last visible pixel, as the first, a middle, the last and the only one.
func TestSetRemovesTiles(t *testing.T) {
	a, b, c := at(-4, -4, lit(0, of(1, 1, 1, 1))), at(0, 0, dot()), at(5, 5, lit(63, of(9, 9, 9, 255)))
	r := rasterOf(a, b, c)
	expectRaster(t, "without the first tile", set(t, r, -32, -32, of(5, 5, 5, 0)), rasterOf(b, c))
	expectRaster(t, "without the middle tile", set(t, r, 4, 2, api.Pixel{}), rasterOf(a, c))
	expectRaster(t, "without the last tile", set(t, r, 47, 47, of(1, 0, 0, 0)), rasterOf(a, b))
	expectRaster(t, "without the only tile", set(t, rasterOf(b), 4, 2, of(0, 0, 9, 0)), api.Raster{})
	expectRaster(t, "with a pixel that was not visible", set(t, r, 5, 2, api.Pixel{}), r)
}

// P8.2: coordinates at the limits, and one beyond.
func TestSetAtTheLimits(t *testing.T) {
	p := of(1, 2, 3, 4)
	for _, x := range []struct{ x, y, tileX, tileY, i int }{
		{-65536, -65536, -8192, -8192, 0}, {65535, -65536, 8191, -8192, 7}, {-65536, 65535, -8192, 8191, 56}, {65535, 65535, 8191, 8191, 63},
	} {
		expectRaster(t, "Set in a corner", set(t, api.Raster{}, x.x, x.y, p), rasterOf(at(x.tileX, x.tileY, lit(x.i, p))))
	}
	for _, bad := range badCoordinates() {
		for _, other := range []int{0, -65536, 65535, bad} {
			for _, source := range []api.Pixel{p, {}} {
				got, err := raster.Set(many(3), bad, other, source)
				expectError(t, "Set outside, in X", got, err, api.ErrArg)
				got, err = raster.Set(many(3), other, bad, source)
				expectError(t, "Set outside, in Y", got, err, api.ErrArg)
			}
		}
	}
}

// P8.2: only a result of more than 1024 tiles is too many.
func TestSetOfManyTiles(t *testing.T) {
	full, p := many(1024), of(1, 2, 3, 4)
	for _, x := range [][2]int{{-1, -1}, {256, 0}, {0, 256}, {-65536, -65536}, {65535, 65535}, {-1, 100}} {
		got, err := raster.Set(full, x[0], x[1], p)
		expectError(t, "Set in a further tile", got, err, api.ErrMany)
		expectRaster(t, "Set of a transparent pixel", set(t, full, x[0], x[1], of(1, 2, 3, 0)), full)
		if got := set(t, many(1023), x[0], x[1], p); len(got.Tiles) != 1024 || raster.Get(got, x[0], x[1]) != p {
			t.Errorf("Set in tile 1024 has %d tiles", len(got.Tiles))
		}
	}
	if got := set(t, full, 100, 100, p); len(got.Tiles) != 1024 || raster.Get(got, 100, 100) != p {
		t.Errorf("Set in one of 1024 tiles has %d tiles", len(got.Tiles))
	}
	less := set(t, full, 0, 0, api.Pixel{})
	expectRaster(t, "Set that removes one of 1024 tiles", less, rasterOf(many(1024).Tiles[1:]...))
	if got := set(t, less, -1, -1, p); len(got.Tiles) != 1024 {
		t.Errorf("Set in a tile in place of another one has %d tiles", len(got.Tiles))
	}
	got, err := raster.Set(full, 65536, 0, p)
	expectError(t, "Set outside, and in a further tile", got, err, api.ErrArg)
	got, err = raster.Set(full, 0, -65537, p)
	expectError(t, "Set outside, and in a further tile", got, err, api.ErrArg)
}

// P8.2: tiles before, between and behind those that there are, and in place of them.
func TestPut(t *testing.T) {
	a, b, c, d := lit(1, of(1, 1, 1, 1)), lit(2, of(2, 2, 2, 2)), lit(3, of(3, 3, 3, 3)), different()
	r := put(t, api.Raster{}, 1, 0, a)
	expectRaster(t, "the first tile", r, rasterOf(at(1, 0, a)))
	r = put(t, r, 5, -1, b)
	expectRaster(t, "a tile before it", r, rasterOf(at(5, -1, b), at(1, 0, a)))
	r = put(t, r, -5, 1, c)
	expectRaster(t, "a tile behind it", r, rasterOf(at(5, -1, b), at(1, 0, a), at(-5, 1, c)))
	r = put(t, r, -1, 0, d)
	expectRaster(t, "a tile in between", r, rasterOf(at(5, -1, b), at(-1, 0, d), at(1, 0, a), at(-5, 1, c)))
	expectRaster(t, "in place of the first tile", put(t, r, 5, -1, d), rasterOf(at(5, -1, d), at(-1, 0, d), at(1, 0, a), at(-5, 1, c)))
	expectRaster(t, "in place of a middle tile", put(t, r, 1, 0, b), rasterOf(at(5, -1, b), at(-1, 0, d), at(1, 0, b), at(-5, 1, c)))
	expectRaster(t, "in place of the last tile", put(t, r, -5, 1, b), rasterOf(at(5, -1, b), at(-1, 0, d), at(1, 0, a), at(-5, 1, b)))
	expectRaster(t, "the same tile", put(t, r, 1, 0, a), r)
}

// P8.2: pixels are cleaned, and a tile in which nothing is to be seen is removed, or not added.
func TestPutOfTransparentPixels(t *testing.T) {
	dirty, clean := different(), different()
	for i := range 64 {
		if i%3 != 1 {
			dirty[i].A, clean[i] = 0, api.Pixel{}
		}
	}
	expectRaster(t, "Put of a tile that is not clean", put(t, api.Raster{}, 2, 3, dirty), rasterOf(at(2, 3, clean)))
	coloured := different()
	for i := range coloured {
		coloured[i].A = 0
	}
	a, b, c := at(-4, -4, different()), at(0, 0, dot()), at(5, 5, different())
	r := rasterOf(a, b, c)
	for _, invisible := range []api.Tile{{}, coloured, lit(63, of(0, 0, 1, 0))} {
		expectRaster(t, "without the first tile", put(t, r, -4, -4, invisible), rasterOf(b, c))
		expectRaster(t, "without the middle tile", put(t, r, 0, 0, invisible), rasterOf(a, c))
		expectRaster(t, "without the last tile", put(t, r, 5, 5, invisible), rasterOf(a, b))
		expectRaster(t, "without the only tile", put(t, rasterOf(b), 0, 0, invisible), api.Raster{})
		expectRaster(t, "where there is no tile", put(t, r, 1, 0, invisible), r)
		expectRaster(t, "in the empty raster", put(t, api.Raster{}, 1, 0, invisible), api.Raster{})
	}
}

// P8.2: positions at the limits, and one beyond.
func TestPutAtTheLimits(t *testing.T) {
	for _, x := range []int{-8192, 8191, 0} {
		for _, y := range []int{-8192, 8191, 0} {
			expectRaster(t, "Put at the limits", put(t, api.Raster{}, x, y, dot()), rasterOf(at(x, y, dot())))
		}
	}
	for _, pos := range badPositions() {
		for _, all := range []api.Tile{dot(), {}} {
			got, err := raster.Put(many(3), pos, all)
			expectError(t, "Put outside", got, err, api.ErrArg)
		}
	}
}

// P8.2: only a result of more than 1024 tiles is too many.
func TestPutOfManyTiles(t *testing.T) {
	full := many(1024)
	for _, pos := range []api.TilePos{{X: -1, Y: -1}, {X: 32, Y: 0}, {X: 0, Y: 32}, {X: -8192, Y: -8192}, {X: 8191, Y: 8191}, {X: -1, Y: 9}} {
		got, err := raster.Put(full, pos, dot())
		expectError(t, "Put of a further tile", got, err, api.ErrMany)
		expectRaster(t, "Put of a transparent tile", put(t, full, pos.X, pos.Y, lit(3, of(1, 1, 1, 0))), full)
		if got := put(t, many(1023), pos.X, pos.Y, dot()); len(got.Tiles) != 1024 || raster.Tile(got, pos) != dot() {
			t.Errorf("Put of tile 1024 has %d tiles", len(got.Tiles))
		}
	}
	if got := put(t, full, 5, 5, dot()); len(got.Tiles) != 1024 || raster.Tile(got, api.TilePos{X: 5, Y: 5}) != dot() {
		t.Errorf("Put in place of one of 1024 tiles has %d tiles", len(got.Tiles))
	}
	less := put(t, full, 31, 31, api.Tile{})
	expectRaster(t, "Put that removes one of 1024 tiles", less, many(1023))
	if got := put(t, less, -1, -1, dot()); len(got.Tiles) != 1024 {
		t.Errorf("Put of a tile in place of another one has %d tiles", len(got.Tiles))
	}
	for _, pos := range badPositions() {
		got, err := raster.Put(full, pos, dot())
		expectError(t, "Put outside, and of a further tile", got, err, api.ErrArg)
	}
}
