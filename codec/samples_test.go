package codec_test

import (
	"slices"
	"testing"

	"gouache/api"
	"gouache/codec"
)

// of returns the pixel with these channels.
func of(r, g, b, a uint8) api.Pixel {
	return api.Pixel{R: r, G: g, B: b, A: a}
}

// box returns the rectangle with these sides.
func box(x0, y0, x1, y1 int) api.Rect {
	return api.Rect{X0: x0, Y0: y0, X1: x1, Y1: y1}
}

// at returns a tile at a position.
func at(x, y int, t api.Tile) api.TileAt {
	return api.TileAt{Pos: api.TilePos{X: x, Y: y}, Tile: t}
}

// rasterOf returns the raster with these tiles, which need not be valid.
func rasterOf(tiles ...api.TileAt) api.Raster {
	return api.Raster{Tiles: tiles}
}

// filled returns a tile of equal pixels.
func filled(p api.Pixel) api.Tile {
	var t api.Tile
	for i := range t {
		t[i] = p
	}
	return t
}

// lit returns a tile with one pixel.
func lit(i int, p api.Pixel) api.Tile {
	var t api.Tile
	t[i] = p
	return t
}

// ramp returns a tile of grey pixels that get lighter to the right and darker downwards.
func ramp() api.Tile {
	var t api.Tile
	for i := range t {
		grey := uint8(100 + 3*(i%8) - 5*(i/8))
		t[i] = of(grey, grey, grey, 255)
	}
	return t
}

// halves returns a tile that is red to the left, and blue to the right, where it is hardly to be seen.
func halves() api.Tile {
	t := filled(of(255, 0, 0, 255))
	for i := range t {
		if i%8 >= 4 {
			t[i] = of(0, 0, 255, 51)
		}
	}
	return t
}

// scatter returns a function that returns integers from 0 to n - 1 without a visible order, others for each seed.
func scatter(seed int) func(n int) int {
	state := uint64(seed)*0x9E3779B97F4A7C15 + 1
	return func(n int) int {
		state = state*6364136223846793005 + 1442695040888963407
		return int(state >> 33 % uint64(n))
	}
}

// scatteredBytes returns a string of n bytes without a visible order.
func scatteredBytes(seed, n int) string {
	next := scatter(seed)
	s := make([]byte, n)
	for i := range s {
		s[i] = byte(next(256))
	}
	return string(s)
}

// noise returns a tile whose channels have any values below a number, or above it from the last value on.
func noise(seed, height int) api.Tile {
	next := scatter(seed)
	var t api.Tile
	for i := range t {
		t[i] = of(uint8(next(height)), uint8(next(height)), uint8(next(height)), uint8(255-next(min(height, 255))))
	}
	return t
}

// slope returns a tile that continues its slopes, with a noise, and that is transparent in places.
func slope(seed int) api.Tile {
	next := scatter(seed)
	var planes [4][64]uint8
	for plane := range planes {
		right, down, start, height := next(15)-7, next(15)-7, next(256), 1+next(1+next(60))
		for i := range planes[plane] {
			planes[plane][i] = uint8(start + right*(i%8) + down*(i/8) + next(height))
		}
	}
	var t api.Tile
	for i := range t {
		if p := of(planes[0][i], planes[1][i], planes[2][i], planes[3][i]); p.A > 0 && next(9) > 0 {
			t[i] = p
		}
	}
	return t
}

// someTiles returns tiles whose blobs have all forms, with all predictors. All are clean, and none is entirely transparent.
func someTiles() []api.Tile {
	tiles := []api.Tile{
		filled(of(9, 0, 0, 128)), filled(of(0, 0, 0, 1)), filled(of(255, 255, 255, 255)), filled(of(1, 2, 3, 4)),
		lit(0, of(1, 2, 3, 255)), lit(63, of(1, 2, 3, 4)), lit(20, of(200, 100, 50, 1)), ramp(), halves(),
		noise(1, 2), noise(2, 16), noise(3, 100), noise(4, 200), noise(5, 256), noise(6, 256), noise(7, 250),
	}
	for seed := range 20 {
		tiles = append(tiles, slope(seed))
	}
	return tiles
}

// scattered returns a raster of at most n tiles around the origin, and in the corners of the limits.
func scattered(seed, n int) api.Raster {
	next, tiles := scatter(seed), someTiles()
	places := map[api.TilePos]bool{}
	for range n {
		pos := api.TilePos{X: next(20) - 10, Y: next(12) - 6}
		switch next(10) {
		case 0:
			pos = api.TilePos{X: -8192 + next(3), Y: 8191 - next(3)}
		case 1:
			pos = api.TilePos{X: 8191 - next(3), Y: -8192 + next(3)}
		}
		places[pos] = true
	}
	var r api.Raster
	for pos := range places {
		r.Tiles = append(r.Tiles, at(pos.X, pos.Y, api.Tile{}))
	}
	slices.SortFunc(r.Tiles, func(a, b api.TileAt) int {
		return 65536*(a.Pos.Y-b.Pos.Y) + a.Pos.X - b.Pos.X
	})
	for i := range r.Tiles {
		r.Tiles[i].Tile = tiles[next(len(tiles))]
	}
	return r
}

// many returns a raster of n tiles, in rows of 40.
func many(n int) api.Raster {
	tiles := someTiles()
	var r api.Raster
	for i := range n {
		r.Tiles = append(r.Tiles, at(i%40-20, i/40-13, tiles[i%len(tiles)]))
	}
	return r
}

// someRasters returns valid rasters.
func someRasters() []api.Raster {
	rasters := []api.Raster{
		{}, {Tiles: []api.TileAt{}}, many(2), many(40), many(127), many(128), many(1023), many(1024),
		rasterOf(at(5, -1, filled(of(9, 0, 0, 128))), at(-3, 0, noise(1, 60)), at(4, 2, ramp())),
		rasterOf(at(-8192, -8192, ramp()), at(8191, -8192, halves()), at(-8192, 8191, noise(1, 256)), at(8191, 8191, lit(0, of(1, 1, 1, 1)))),
	}
	for _, t := range someTiles() {
		rasters = append(rasters, rasterOf(at(0, 0, t)), rasterOf(at(-1, 0, t), at(0, 0, t)))
	}
	for seed := range 8 {
		rasters = append(rasters, scattered(seed, 1+7*seed))
	}
	return rasters
}

// packedRaster packs a raster, which must succeed.
func packedRaster(t *testing.T, r api.Raster) string {
	t.Helper()
	s, err := codec.Pack(r)
	if err != api.OK {
		t.Fatalf("Pack of %d tiles returns the error %d", len(r.Tiles), err)
	}
	return s
}
