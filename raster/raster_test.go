package raster_test

import (
	"math"
	"slices"
	"testing"

	"gouache/api"
	"gouache/raster"
)

const (
	least    = math.MinInt
	greatest = math.MaxInt
)

// of returns the pixel with these channels.
func of(r, g, b, a uint8) api.Pixel {
	return api.Pixel{R: r, G: g, B: b, A: a}
}

// box returns the rectangle with these fields.
func box(x0, y0, x1, y1 int) api.Rect {
	return api.Rect{X0: x0, Y0: y0, X1: x1, Y1: y1}
}

// lit returns the zero tile with one pixel replaced.
func lit(i int, p api.Pixel) api.Tile {
	var t api.Tile
	t[i] = p
	return t
}

// dot returns a tile with one visible pixel, in its third row and fifth column.
func dot() api.Tile {
	return lit(20, of(1, 2, 3, 4))
}

// different returns a tile whose 64 pixels are all different, and none of them transparent.
func different() api.Tile {
	var t api.Tile
	for i := range t {
		t[i] = of(uint8(i), uint8(200-i), uint8(3*i), uint8(255-2*i))
	}
	return t
}

// at returns a tile and its position.
func at(x, y int, t api.Tile) api.TileAt {
	return api.TileAt{Pos: api.TilePos{X: x, Y: y}, Tile: t}
}

// rasterOf returns the raster with these tiles, be they valid or not.
func rasterOf(tiles ...api.TileAt) api.Raster {
	return api.Raster{Tiles: tiles}
}

// many returns a raster of n tiles in rows of 32, from the position (0, 0) on, with one visible pixel each.
func many(n int) api.Raster {
	var r api.Raster
	for i := range n {
		r.Tiles = append(r.Tiles, at(i%32, i/32, lit(i%64, of(uint8(i), uint8(i>>8), 7, 255))))
	}
	return r
}

// invalidRasters returns rasters that are not valid for one reason each. Something is to be seen at (4, 2) in all of them.
func invalidRasters() []api.Raster {
	rasters := []api.Raster{
		many(1025),
		many(3000),
		rasterOf(at(0, 0, dot()), at(0, 0, dot())),
		rasterOf(at(0, 0, dot()), at(0, 0, different())),
		rasterOf(at(1, 0, dot()), at(0, 0, dot())),
		rasterOf(at(0, 1, dot()), at(0, 0, dot())),
		rasterOf(at(0, 1, dot()), at(1, 0, dot()), at(0, 0, dot())),
		rasterOf(at(0, 0, dot()), at(5, 3, dot()), at(0, 0, dot())),
		rasterOf(at(0, 0, dot()), at(1, 1, dot()), at(2, 1, dot()), at(2, 1, dot())),
		rasterOf(at(0, 0, dot()), at(1, 0, api.Tile{})),
		rasterOf(at(-1, 0, api.Tile{}), at(0, 0, dot())),
		rasterOf(at(0, 0, dot()), at(1, 0, lit(63, of(0, 0, 1, 0)))),
	}
	for _, pos := range badPositions() {
		tiles := []api.TileAt{at(0, 0, dot()), at(pos.X, pos.Y, dot())}
		slices.SortFunc(tiles, inOrder)
		rasters = append(rasters, rasterOf(tiles...))
	}
	for _, i := range []int{0, 19, 21, 63} {
		dirty := different()
		dirty[i].A = 0
		rasters = append(rasters, rasterOf(at(-1, -1, dot()), at(0, 0, dirty)))
	}
	return rasters
}

// badPositions returns positions of tiles that lie outside of the coordinate limits, many of them such that 8 times a coordinate, as an integer that wraps around, lies within.
func badPositions() []api.TilePos {
	var positions []api.TilePos
	for _, bad := range []int{-8193, 8192, -8194, 8193, -65536, 65536, 1 << 31, -1 << 31, 1 << 32, 1 << 61, -1 << 61, 1<<61 + 1, -1<<61 - 1, 1 << 62, least, least + 1, greatest, greatest - 1} {
		for _, other := range []int{0, -8192, 8191, bad} {
			positions = append(positions, api.TilePos{X: bad, Y: other}, api.TilePos{X: other, Y: bad})
		}
	}
	return positions
}

// badCoordinates returns integers that are no coordinates of pixels within the limits.
func badCoordinates() []int {
	return []int{-65537, 65536, -65538, 65537, -65544, 65543, 65544, 1 << 31, -1 << 31, 1 << 32, 1 << 61, 1 << 62, -1 << 62, least, least + 1, least + 7, greatest, greatest - 1, greatest - 7}
}

// inOrder compares tiles by Y, then by X, from the definition.
func inOrder(a, b api.TileAt) int {
	switch {
	case a.Pos == b.Pos:
		return 0
	case a.Pos.Y < b.Pos.Y || a.Pos.Y == b.Pos.Y && a.Pos.X < b.Pos.X:
		return -1
	}
	return 1
}

// expectRaster reports a raster that is not the wanted one, tile by tile.
func expectRaster(t *testing.T, call string, got, want api.Raster) {
	t.Helper()
	if !slices.Equal(got.Tiles, want.Tiles) {
		t.Errorf("%s has the tiles %v, not %v", call, got.Tiles, want.Tiles)
	}
}

// expectError reports an error that is not the wanted one, or a raster beside it.
func expectError(t *testing.T, call string, got api.Raster, err, want api.Errno) {
	t.Helper()
	if err != want || len(got.Tiles) != 0 {
		t.Errorf("%s has %d tiles and the error %d, not %d", call, len(got.Tiles), err, want)
	}
}

// P8.1: rasters of all numbers of tiles, with positions at the limits, and in order.
func TestValid(t *testing.T) {
	corners := rasterOf(at(-8192, -8192, dot()), at(8191, -8192, dot()), at(-8192, 8191, dot()), at(8191, 8191, dot()))
	for i, r := range []api.Raster{
		{}, {Tiles: []api.TileAt{}}, many(1), many(2), many(1023), many(1024), corners,
		rasterOf(at(-1, 0, dot()), at(0, 0, different())),
		rasterOf(at(5, -1, dot()), at(-5, 0, dot()), at(-9, 1, dot())),
		rasterOf(at(0, 0, lit(0, of(0, 0, 0, 1)))),
		rasterOf(at(0, 0, lit(63, of(255, 255, 255, 255)))),
	} {
		if !raster.Valid(r) {
			t.Errorf("raster %d is not valid", i)
		}
	}
}

// P8.1: every single violation makes a raster not valid.
func TestValidOfInvalidRasters(t *testing.T) {
	for i, r := range invalidRasters() {
		if raster.Valid(r) {
			t.Errorf("raster %d is valid: %v", i, r.Tiles[:min(len(r.Tiles), 3)])
		}
	}
	for _, i := range []int{0, 1, 500, 1022, 1023} {
		for _, flaw := range []func(*api.TileAt){
			func(a *api.TileAt) { a.Tile = api.Tile{} },
			func(a *api.TileAt) { a.Tile[(i+1)%64] = of(0, 1, 0, 0) },
			func(a *api.TileAt) { a.Pos.X = 8192 },
			func(a *api.TileAt) { a.Pos = api.TilePos{X: 31 - a.Pos.X, Y: 31 - a.Pos.Y} },
		} {
			r := many(1024)
			flaw(&r.Tiles[i])
			if raster.Valid(r) {
				t.Errorf("valid, although tile %d is not: %v", i, r.Tiles[i])
			}
		}
	}
}

// P8.1: any one transparent pixel that has a colour, in any channel, makes a raster not valid.
func TestValidOfTransparentColours(t *testing.T) {
	for i := range 64 {
		for _, dirty := range []api.Pixel{of(1, 0, 0, 0), of(0, 1, 0, 0), of(0, 0, 1, 0), of(255, 255, 255, 0)} {
			tile := different()
			tile[i] = dirty
			if raster.Valid(rasterOf(at(0, 0, tile))) {
				t.Errorf("valid with %v at %d", dirty, i)
			}
			tile[i] = api.Pixel{}
			if !raster.Valid(rasterOf(at(0, 0, tile))) {
				t.Errorf("not valid with the zero pixel at %d", i)
			}
		}
	}
}

// P8.1: a transparent tile is not valid, be it without colours or with them.
func TestValidOfTransparentTiles(t *testing.T) {
	coloured := different()
	for i := range coloured {
		coloured[i].A = 0
	}
	for _, invisible := range []api.Tile{{}, coloured, lit(0, of(0, 0, 1, 0))} {
		if raster.Valid(rasterOf(at(0, 0, invisible))) {
			t.Errorf("a raster of the tile %v is valid", invisible)
		}
	}
}

// P8.1: the tile at each position, and the zero tile at all others.
func TestTile(t *testing.T) {
	r := rasterOf(at(3, -2, lit(1, of(1, 1, 1, 1))), at(-8192, 0, different()), at(-1, 0, dot()), at(0, 0, lit(2, of(2, 2, 2, 2))), at(8191, 8191, lit(3, of(3, 3, 3, 3))))
	for _, a := range r.Tiles {
		if got := raster.Tile(r, a.Pos); got != a.Tile {
			t.Errorf("the tile at %v is %v", a.Pos, got)
		}
	}
	for _, pos := range append(badPositions(), api.TilePos{X: -2, Y: 3}, api.TilePos{X: 0, Y: -1}, api.TilePos{X: -8192, Y: 1}, api.TilePos{X: 8191, Y: 0}, api.TilePos{X: 1, Y: 0}) {
		if got := raster.Tile(r, pos); got != (api.Tile{}) {
			t.Errorf("the tile at %v is %v", pos, got)
		}
		if got := raster.Tile(api.Raster{}, pos); got != (api.Tile{}) {
			t.Errorf("the tile of the empty raster at %v is %v", pos, got)
		}
	}
	full := many(1024)
	for _, a := range full.Tiles {
		if got := raster.Tile(full, a.Pos); got != a.Tile {
			t.Errorf("the tile at %v of 1024 tiles is %v", a.Pos, got)
		}
	}
}

// P8.1: a raster that is not valid has the first one of several tiles at a position, in whatever order, and transparent colours, too.
func TestTileAndGetOfInvalidRasters(t *testing.T) {
	dirty := lit(9, of(7, 8, 9, 0))
	r := rasterOf(at(5, 5, dot()), at(0, 0, dirty), at(-1, 3, different()), at(5, 5, different()), at(0, 0, different()), at(8192, -8193, dot()), at(least, greatest, dirty), at(2, 2, api.Tile{}), at(2, 2, dot()))
	for _, x := range []struct {
		pos  api.TilePos
		want api.Tile
	}{
		{api.TilePos{X: 5, Y: 5}, dot()},
		{api.TilePos{}, dirty},
		{api.TilePos{X: -1, Y: 3}, different()},
		{api.TilePos{X: 8192, Y: -8193}, dot()},
		{api.TilePos{X: least, Y: greatest}, dirty},
		{api.TilePos{X: 2, Y: 2}, api.Tile{}},
		{api.TilePos{X: 1, Y: 1}, api.Tile{}},
	} {
		if got := raster.Tile(r, x.pos); got != x.want {
			t.Errorf("the tile at %v is %v, not %v", x.pos, got, x.want)
		}
	}
	for _, x := range []struct {
		x, y int
		want api.Pixel
	}{
		{44, 42, of(1, 2, 3, 4)}, {45, 42, api.Pixel{}}, {1, 1, of(7, 8, 9, 0)}, {-8, 24, different()[0]}, {20, 18, api.Pixel{}},
		{65536 + 4, -65544 + 2, of(1, 2, 3, 4)}, {65536, -65544, api.Pixel{}},
	} {
		if got := raster.Get(r, x.x, x.y); got != x.want {
			t.Errorf("the pixel at (%d, %d) is %v, not %v", x.x, x.y, got, x.want)
		}
	}
	tooMany := many(2000)
	for _, a := range tooMany.Tiles {
		if got := raster.Tile(tooMany, a.Pos); got != a.Tile {
			t.Errorf("the tile at %v of 2000 tiles is %v", a.Pos, got)
		}
	}
}

// P8.1: each pixel of tiles on all sides of the origin and at the limits, and the zero pixel around them.
func TestGet(t *testing.T) {
	for _, pos := range []api.TilePos{{}, {X: 1, Y: 2}, {X: -1, Y: -1}, {X: -3, Y: 2}, {X: 4, Y: -5}, {X: -8192, Y: -8192}, {X: 8191, Y: 8191}, {X: -8192, Y: 8191}} {
		r := rasterOf(at(pos.X, pos.Y, different()))
		for y := -2; y < 10; y++ {
			for x := -2; x < 10; x++ {
				want := api.Pixel{}
				if x >= 0 && x < 8 && y >= 0 && y < 8 {
					want = different()[8*y+x]
				}
				if got := raster.Get(r, 8*pos.X+x, 8*pos.Y+y); got != want {
					t.Errorf("the pixel at (%d, %d) of the tile at %v is %v, not %v", x, y, pos, got, want)
				}
			}
		}
	}
}

// P8.1: there is nothing far outside of the limits, unless a raster that is not valid has a tile there.
func TestGetFarOutside(t *testing.T) {
	r := rasterOf(at(-8192, -8192, different()), at(0, 0, different()), at(8191, 8191, different()))
	for _, bad := range badCoordinates() {
		for _, other := range append(badCoordinates(), 0, -65536, 65535) {
			if got := raster.Get(r, bad, other); got != (api.Pixel{}) {
				t.Errorf("the pixel at (%d, %d) is %v", bad, other, got)
			}
			if got := raster.Get(r, other, bad); got != (api.Pixel{}) {
				t.Errorf("the pixel at (%d, %d) is %v", other, bad, got)
			}
		}
	}
	far := rasterOf(at(-1<<60, 1<<60-1, different()))
	if got := raster.Get(far, least, greatest); got != different()[56] {
		t.Errorf("the pixel in the lower left corner of the integers is %v", got)
	}
	if got := raster.Get(far, least+7, greatest-7); got != different()[7] {
		t.Errorf("the pixel near the lower left corner of the integers is %v", got)
	}
	wrapped := rasterOf(at(1<<61, 0, different()), at(0, 1<<61, different()))
	if got := raster.Get(wrapped, 0, 0); got != (api.Pixel{}) {
		t.Errorf("a pixel far outside appears as %v at the origin", got)
	}
}

// P8.2 to P8.6: a raster that is not valid is treated as the empty one.
func TestInvalidRastersAreEmpty(t *testing.T) {
	other := rasterOf(at(0, 0, dot()), at(7, 7, dot()))
	m := api.Image{Rect: box(6, 6, 10, 7), Pixels: []api.Pixel{of(1, 2, 3, 4), {}, of(5, 6, 7, 8), of(9, 9, 9, 0)}}
	pasted := rasterOf(at(0, 0, lit(54, of(1, 2, 3, 4))), at(1, 0, lit(48, of(5, 6, 7, 8))))
	emptyKey := raster.Key(api.Raster{})
	for i, bad := range invalidRasters() {
		if raster.Tile(bad, api.TilePos{}) == (api.Tile{}) {
			t.Errorf("raster %d has no tile at (0, 0)", i)
		}
		set, err := raster.Set(bad, 3, 1, of(9, 8, 7, 6))
		expectRaster(t, "Set", set, rasterOf(at(0, 0, lit(11, of(9, 8, 7, 6)))))
		set, setErr := raster.Set(bad, 4, 2, api.Pixel{})
		expectRaster(t, "Set of a transparent pixel", set, api.Raster{})
		put, putErr := raster.Put(bad, api.TilePos{X: 4, Y: 4}, dot())
		expectRaster(t, "Put", put, rasterOf(at(4, 4, dot())))
		got, pasteErr := raster.Paste(bad, m)
		expectRaster(t, "Paste", got, pasted)
		image, imageErr := raster.Image(bad, box(4, 2, 6, 3))
		if !slices.Equal(image.Pixels, make([]api.Pixel, 2)) || image.Rect != box(4, 2, 6, 3) {
			t.Errorf("Image of raster %d is %v", i, image)
		}
		if err != api.OK || setErr != api.OK || putErr != api.OK || pasteErr != api.OK || imageErr != api.OK {
			t.Errorf("raster %d has errors: %d %d %d %d %d", i, err, setErr, putErr, pasteErr, imageErr)
		}
		expectRaster(t, "Crop", raster.Crop(bad, box(-70000, -70000, 70000, 70000)), api.Raster{})
		if b := raster.Bounds(bad); b != (api.Rect{}) {
			t.Errorf("Bounds of raster %d is %v", i, b)
		}
		if !raster.Equal(bad, api.Raster{}) || !raster.Equal(api.Raster{}, bad) || !raster.Equal(bad, many(1025)) || raster.Equal(bad, other) || raster.Equal(other, bad) {
			t.Errorf("raster %d does not equal the empty one", i)
		}
		want := []api.TilePos{{}, {X: 7, Y: 7}}
		if !slices.Equal(raster.Changed(bad, other), want) || !slices.Equal(raster.Changed(other, bad), want) || len(raster.Changed(bad, api.Raster{})) != 0 || len(raster.Changed(bad, bad)) != 0 {
			t.Errorf("raster %d does not differ from others as the empty one does", i)
		}
		if raster.Key(bad) != emptyKey {
			t.Errorf("raster %d does not have the key of the empty one", i)
		}
	}
}
