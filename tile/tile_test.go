package tile_test

import (
	"math"
	"testing"

	"gouache/api"
	"gouache/tile"
)

const (
	least    = math.MinInt
	greatest = math.MaxInt
)

// of returns the pixel with these channels.
func of(r, g, b, a uint8) api.Pixel {
	return api.Pixel{R: r, G: g, B: b, A: a}
}

// somePixels returns pixels of several alphas, transparent ones with a colour among them.
func somePixels() []api.Pixel {
	return []api.Pixel{
		{}, of(1, 0, 0, 0), of(0, 1, 0, 0), of(0, 0, 255, 0), of(255, 255, 255, 0),
		of(0, 0, 0, 1), of(255, 128, 7, 1), of(127, 128, 0, 127), of(9, 200, 30, 128), of(1, 2, 3, 254), of(0, 0, 0, 255), of(255, 255, 255, 255), of(10, 20, 30, 255),
	}
}

// different returns a tile whose 64 pixels are all different, and none of them transparent.
func different() api.Tile {
	var t api.Tile
	for i := range t {
		t[i] = of(uint8(i), uint8(200-i), uint8(3*i), uint8(255-2*i))
	}
	return t
}

// coloured returns a tile whose pixels are all transparent, with 64 colours.
func coloured() api.Tile {
	t := different()
	for i := range t {
		t[i].A = 0
	}
	return t
}

// scattered returns a tile of pixels that differ widely; every fourth one of them is transparent, with a colour, and every fourth one opaque.
func scattered(seed int) api.Tile {
	var t api.Tile
	state := uint64(seed)
	for i := range t {
		state = state*6364136223846793005 + 1442695040888963407
		t[i] = of(uint8(state>>56), uint8(state>>48), uint8(state>>40), uint8(state>>32))
		switch state >> 30 & 3 {
		case 0:
			t[i].A = 0
		case 1:
			t[i].A = 255
		}
	}
	return t
}

// someTiles returns tiles of all kinds.
func someTiles() []api.Tile {
	tiles := []api.Tile{{}, different(), coloured()}
	for _, p := range somePixels() {
		tiles = append(tiles, filled(p))
	}
	for seed := range 6 {
		tiles = append(tiles, scattered(seed))
	}
	return tiles
}

// filled returns a tile of equal pixels.
func filled(p api.Pixel) api.Tile {
	var t api.Tile
	for i := range t {
		t[i] = p
	}
	return t
}

// with returns a tile in which one pixel is replaced.
func with(t api.Tile, i int, p api.Pixel) api.Tile {
	t[i] = p
	return t
}

// outside returns integers that are no column and no row.
func outside() []int {
	return []int{-1, 8, -2, -7, -8, -9, 9, 15, 16, 63, 64, 1 << 31, -1 << 31, 1 << 32, 1<<32 + 3, 1 << 61, -1 << 61, 1<<61 + 1, -1<<61 + 1, least, least + 1, greatest, greatest - 1}
}

// P7.1: a tile is zero if no pixel is to be seen, whatever colours there are.
func TestZero(t *testing.T) {
	for _, invisible := range []api.Tile{{}, coloured(), filled(of(255, 255, 255, 0)), with(api.Tile{}, 63, of(0, 0, 1, 0))} {
		if !tile.Zero(invisible) {
			t.Errorf("%v is not zero", invisible)
		}
		for i := range invisible {
			for _, alpha := range []uint8{1, 127, 128, 255} {
				seen := invisible[i]
				seen.A = alpha
				if tile.Zero(with(invisible, i, seen)) {
					t.Errorf("zero, although pixel %d has alpha %d", i, alpha)
				}
			}
		}
	}
	for _, seen := range []api.Tile{different(), filled(of(0, 0, 0, 1)), filled(of(1, 2, 3, 255))} {
		if tile.Zero(seen) {
			t.Errorf("%v is zero", seen)
		}
	}
}

// P7.1: a tile of equal pixels is solid, transparent ones with a colour included.
func TestSolid(t *testing.T) {
	for _, p := range somePixels() {
		if got, ok := tile.Solid(filled(p)); got != p || !ok {
			t.Errorf("Solid of a tile of %v is %v, %v", p, got, ok)
		}
	}
	if got, ok := tile.Solid(api.Tile{}); got != (api.Pixel{}) || !ok {
		t.Errorf("Solid of the zero tile is %v, %v", got, ok)
	}
}

// P7.1: any one pixel, the first and the last ones included, makes a tile not solid if it differs in any one channel. There is no pixel then.
func TestSolidOfAlmostEqualPixels(t *testing.T) {
	for _, p := range somePixels() {
		for i := range api.TilePixels {
			for _, q := range []api.Pixel{of(p.R+1, p.G, p.B, p.A), of(p.R, p.G+1, p.B, p.A), of(p.R, p.G, p.B+1, p.A), of(p.R, p.G, p.B, p.A+1)} {
				if got, ok := tile.Solid(with(filled(p), i, q)); got != (api.Pixel{}) || ok {
					t.Errorf("Solid of a tile of %v, with %v at %d, is %v, %v", p, q, i, got, ok)
				}
			}
		}
	}
	for _, mixed := range []api.Tile{different(), coloured(), scattered(1)} {
		if got, ok := tile.Solid(mixed); got != (api.Pixel{}) || ok {
			t.Errorf("Solid of %v is %v, %v", mixed, got, ok)
		}
	}
}

// P7.2: each place, in all tiles.
func TestGet(t *testing.T) {
	for _, all := range someTiles() {
		for y := range 8 {
			for x := range 8 {
				if got := tile.Get(all, x, y); got != all[8*y+x] {
					t.Errorf("Get at (%d, %d) is %v, not %v", x, y, got, all[8*y+x])
				}
			}
		}
	}
}

// P7.2: each place, with pixels of all kinds; the tile that is given stays as it is.
func TestSet(t *testing.T) {
	for _, all := range someTiles() {
		for y := range 8 {
			for x := range 8 {
				for _, p := range somePixels() {
					before := all
					if got := tile.Set(all, x, y, p); got != with(before, 8*y+x, p) || all != before {
						t.Fatalf("Set of %v at (%d, %d) is %v", p, x, y, got)
					}
				}
			}
		}
	}
}

// P7.2: Get and Set at the borders of a tile and beyond them, in one coordinate and in both.
func TestGetAndSetAtTheBorders(t *testing.T) {
	all, p := different(), of(99, 98, 97, 0)
	for _, at := range []struct{ x, y, i int }{
		{0, 0, 0}, {7, 0, 7}, {0, 7, 56}, {7, 7, 63},
		{-1, 0, -1}, {-1, 7, -1}, {8, 0, -1}, {8, 7, -1},
		{0, -1, -1}, {7, -1, -1}, {0, 8, -1}, {7, 8, -1},
		{-1, -1, -1}, {-1, 8, -1}, {8, -1, -1}, {8, 8, -1},
	} {
		wantPixel, wantTile := api.Pixel{}, all
		if at.i >= 0 {
			wantPixel, wantTile = all[at.i], with(all, at.i, p)
		}
		if got := tile.Get(all, at.x, at.y); got != wantPixel {
			t.Errorf("Get at (%d, %d) is %v, not %v", at.x, at.y, got, wantPixel)
		}
		if got := tile.Set(all, at.x, at.y, p); got != wantTile {
			t.Errorf("Set at (%d, %d) is %v, not %v", at.x, at.y, got, wantTile)
		}
	}
}

// P7.2: outside of the tile there is the zero pixel, and nothing to set, even where 8y + x would be an index.
func TestGetAndSetOutside(t *testing.T) {
	all, p := different(), of(99, 98, 97, 96)
	check := func(x, y int) {
		if got := tile.Get(all, x, y); got != (api.Pixel{}) {
			t.Errorf("Get at (%d, %d) is %v", x, y, got)
		}
		if got := tile.Set(all, x, y, p); got != all {
			t.Errorf("Set at (%d, %d) is %v", x, y, got)
		}
	}
	for _, out := range outside() {
		for in := range 8 {
			check(out, in)
			check(in, out)
		}
		for _, other := range outside() {
			check(out, other)
		}
	}
}

// P7.2: pixels of all kinds; no pixel is cleaned.
func TestFill(t *testing.T) {
	for _, p := range somePixels() {
		if got := tile.Fill(p); got != filled(p) {
			t.Errorf("Fill(%v) is %v", p, got)
		}
	}
}

// P7.2: transparent pixels lose their colours, and all others stay.
func TestClean(t *testing.T) {
	for _, all := range someTiles() {
		want := all
		for i := range want {
			if want[i].A == 0 {
				want[i] = api.Pixel{}
			}
		}
		if got := tile.Clean(all); got != want {
			t.Errorf("Clean of %v is %v, not %v", all, got, want)
		}
	}
	for i := range api.TilePixels {
		if got := tile.Clean(with(different(), i, of(1, 2, 3, 0))); got != with(different(), i, api.Pixel{}) {
			t.Errorf("Clean does not clean pixel %d: %v", i, got)
		}
	}
}

// R3 and R4: no call changes its arguments, and each call returns the same result again.
func TestArgumentsStayAsTheyAre(t *testing.T) {
	type results struct {
		tiles [9]api.Tile
		solid api.Pixel
		flags [2]bool
		bytes string
		err   api.Errno
	}
	call := func(a, b api.Tile, s string, coverage [api.TilePixels]uint8) results {
		var r results
		r.flags[0] = tile.Zero(a)
		r.solid, r.flags[1] = tile.Solid(a)
		r.tiles = [9]api.Tile{tile.Set(a, 1, 2, b[3]), tile.Fill(b[0]), tile.Clean(a), tile.Over(a, b, api.SoftLight, coverage), tile.Mask(a, b), tile.Flip(a), tile.Turn(a), tile.Halve(a, b, b, a)}
		r.tiles[8], r.err = tile.Read(s)
		r.bytes = tile.Bytes(a) + string(tile.Key(a))
		return r
	}
	for i, a := range someTiles() {
		b, s, coverage := scattered(i), tile.Bytes(scattered(-i)), coverages(i)
		aBefore, bBefore, sBefore, coverageBefore := a, b, string([]byte(s)), coverage
		first := call(a, b, s, coverage)
		if a != aBefore || b != bBefore || s != sBefore || coverage != coverageBefore {
			t.Errorf("an argument has changed, with tile %d", i)
		}
		if call(a, b, s, coverage) != first {
			t.Errorf("the results have changed, with tile %d", i)
		}
	}
}

// P1: no call panics, whatever its input is.
func FuzzTilesFollowTheirRules(f *testing.F) {
	f.Add("", 0, 0, 0)
	f.Add("\x00\x01\x7f\x80\xff", -1, 8, 16)
	f.Add(tile.Bytes(different()), least, greatest, least)
	f.Add(tile.Bytes(coloured()), 3, 7, 9)
	f.Fuzz(func(t *testing.T, s string, x, y, mode int) {
		a, err := tile.Read(s)
		if (err == api.OK) != (len(s) == 256) || err == api.OK && tile.Bytes(a) != s || err != api.OK && (err != api.ErrForm || a != api.Tile{}) {
			t.Errorf("Read(%q) is %v, %v", s, a, err)
		}
		b := with(scattered(x), y&63, tile.Get(a, x, y))
		set := tile.Set(a, x, y, of(1, 2, 3, 4))
		inside := 0 <= x && x <= 7 && 0 <= y && y <= 7
		if inside && set != with(a, 8*y+x, of(1, 2, 3, 4)) || !inside && (set != a || tile.Get(a, x, y) != api.Pixel{}) {
			t.Errorf("Set at (%d, %d) of %v is %v", x, y, a, set)
		}
		for _, c := range []api.Tile{tile.Over(a, b, mode, coverages(mode)), tile.Mask(a, b), tile.Halve(a, b, set, a), tile.Clean(a)} {
			if tile.Clean(c) != c || tile.Flip(tile.Flip(c)) != c || tile.Turn(tile.Turn(tile.Turn(tile.Turn(c)))) != c {
				t.Errorf("%v is not clean, or its symmetries are wrong", c)
			}
		}
		if p, ok := tile.Solid(a); ok && tile.Fill(p) != a || tile.Zero(a) != (tile.Clean(a) == api.Tile{}) {
			t.Errorf("%v is not as solid, or as zero, as it should be", a)
		}
	})
}
