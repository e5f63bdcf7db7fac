package selection_test

import (
	"slices"
	"testing"

	"gouache/api"
	"gouache/pixel"
	"gouache/raster"
	"gouache/selection"
)

// expectRestored reports a set of pixels that Inside does not give back from its outline, unless that is an error.
func expectRestored(t *testing.T, r api.Raster, threshold int, p api.Pixel) (isRestored bool) {
	t.Helper()
	got, err := selection.Inside(selection.Outline(r, threshold), p)
	if err != api.OK {
		return false
	}
	pixels := pixelsOf(r)
	for place, old := range pixels {
		pixels[place] = pixel.Clean(p)
		if int(old.A) < threshold {
			delete(pixels, place)
		}
	}
	if want, _ := tiled(pixels); !raster.Equal(got, want) {
		t.Fatalf("the outline of %v with the threshold %d gives back %v", pixelsOf(r), threshold, pixelsOf(got))
	}
	return true
}

// nearRaster returns a raster of some tiles so near one another that Inside has no error.
func nearRaster(seed int) api.Raster {
	var tiles []api.TileAt
	for _, tile := range scatteredRaster(seed, 1+seed%20, seed%3 == 0).Tiles {
		if tile.Pos.X > -100 && tile.Pos.X < 100 {
			tiles = append(tiles, tile)
		}
	}
	return rasterOf(tiles...)
}

// P15.6: the inside of an outline is the set of pixels.
func TestInsideOfOutline(t *testing.T) {
	restored := 0
	for seed := range 150 {
		for _, threshold := range []int{1, 2, 100, 128, 200, 254, 255} {
			if expectRestored(t, nearRaster(seed), threshold, colours()[(seed+threshold)%6]) {
				restored++
			}
		}
	}
	if restored < 700 {
		t.Errorf("only %d sets have no error", restored)
	}
	for _, r := range append(rasters(), invalidRasters()...) {
		for threshold := 1; threshold <= 255; threshold += 127 {
			expectRestored(t, r, threshold, of(1, 2, 3, 4))
		}
	}
	for _, lines := range [][]string{
		{"9"}, {"9 ", " 9"}, {" 9", "9 "}, {"999", "9 9", "999"}, {"9999", "99 9", "9 99", "9999"}, {"99999", "9   9", "9 9 9", "9   9", "99999"}, {"99 ", "9 9", "999"}, {"999", "9 9", " 99"}, {"159951", "513135", "951159"},
	} {
		for _, by := range []int{0, -3, 6, lowest, highest - 6} {
			for threshold := 1; threshold <= 255; threshold += 28 {
				if !expectRestored(t, drawn(by, -by-6, lines...), threshold, of(1, 2, 3, 4)) {
					t.Fatalf("the outline of %q at %d has an error", lines, by)
				}
			}
		}
	}
}

// P15.6: all sets in a square of four by four pixels.
func TestInsideOfOutlineOfSmallSets(t *testing.T) {
	for n := 1; n < 1<<16; n += 7 {
		var tile api.Tile
		for i := range 16 {
			tile[8*(i/4)+i%4].A = uint8(n >> i & 1)
		}
		if !expectRestored(t, rasterOf(api.TileAt{Tile: tile}), 1, of(1, 2, 3, 4)) {
			t.Fatalf("the outline of set %x has an error", n)
		}
	}
}

// P15.6: 1024 tiles are restored. Sides that are too long, and too many polygons, are errors.
func TestInsideOfOutlineOfManyTiles(t *testing.T) {
	black := of(0, 0, 0, 255)
	if !expectRestored(t, rows(1024, -16, -16, black), 255, of(1, 2, 3, 4)) {
		t.Error("a square of 1024 tiles is not restored")
	}
	if _, err := selection.Inside(selection.Outline(rasterOf(solid(0, 0, black), solid(32, 0, black)), 1), black); err != api.ErrBudget {
		t.Errorf("for tiles at a distance, the error is %d", err)
	}
	lonely := make([]api.TileAt, 1024)
	for i := range lonely {
		lonely[i] = api.TileAt{Pos: api.TilePos{X: i % 32, Y: i / 32}}
		lonely[i].Tile[0] = black
	}
	if !expectRestored(t, rasterOf(lonely...), 1, black) {
		t.Error("1024 pixels are not restored")
	}
	lonely[77].Tile[63] = black
	if _, err := selection.Inside(selection.Outline(rasterOf(lonely...), 1), black); err != api.ErrArg {
		t.Errorf("for 1025 pixels, the error is %d", err)
	}
}

// P15.6: the outline of what is inside of an outline is the outline.
func TestOutlineOfInside(t *testing.T) {
	for seed := range 50 {
		paths := selection.Outline(nearRaster(seed), 120)
		if r, err := selection.Inside(paths, of(0, 0, 0, 255)); err == api.OK && !isSame(selection.Outline(r, 255), paths) {
			t.Fatalf("the outline %v is another one again", paths)
		}
	}
}

// P15.6: black masks are combined as sets are.
func TestMasksAsSets(t *testing.T) {
	var sets []api.Raster
	for seed := range 4 {
		sets = append(sets, scatteredRaster(seed, 10+10*seed, true))
	}
	black, empty := of(0, 0, 0, 255), api.Raster{}
	sets = append(sets, empty, rows(1024, 0, 0, black), rows(600, 5, -3, black), rasterOf(solid(0, 0, black)))
	union, common, minus := selection.Union, selection.Common, selection.Minus
	same := func(a, b api.Raster) bool { return slices.Equal(a.Tiles, b.Tiles) }
	for i, a := range sets {
		if !same(union(a, a), a) || !same(common(a, a), a) || !same(minus(a, a), empty) {
			t.Errorf("set %d with itself is another one", i)
		}
		if !same(union(a, empty), a) || !same(union(empty, a), a) || !same(common(a, empty), empty) || !same(common(empty, a), empty) || !same(minus(a, empty), a) || !same(minus(empty, a), empty) {
			t.Errorf("set %d with the empty one is another one", i)
		}
		for j, b := range sets {
			if !same(union(a, b), union(b, a)) || !same(common(a, b), common(b, a)) {
				t.Errorf("sets %d and %d do not commute", i, j)
			}
			if !same(minus(a, minus(a, b)), common(a, b)) {
				t.Errorf("sets %d and %d have a common part that is not left", i, j)
			}
			for k, c := range sets {
				if !same(union(union(a, b), c), union(a, union(b, c))) || !same(common(common(a, b), c), common(a, common(b, c))) || !same(minus(minus(a, b), c), minus(minus(a, c), b)) {
					t.Errorf("sets %d, %d and %d are not associative", i, j, k)
				}
			}
		}
	}
}

// P15.5, P15.6: the inverse of the inverse is the mask within the rectangle, and both cover all of it together if the mask is black.
func TestInverseTwice(t *testing.T) {
	r := box(-30, -20, 33, 25)
	for seed := range 30 {
		a := scatteredRaster(seed, 30, seed%2 == 0)
		once, err := selection.Inverse(a, r)
		twice, again := selection.Inverse(once, r)
		if err != api.OK || again != api.OK || !raster.Equal(twice, selection.Union(raster.Crop(a, r), api.Raster{})) {
			t.Fatalf("the inverse of the inverse of mask %d is another one", seed)
		}
		whole, _ := selection.Inverse(api.Raster{}, r)
		if seed%2 == 0 && (!raster.Equal(selection.Union(once, twice), whole) || len(selection.Common(once, twice).Tiles) != 0 || !raster.Equal(selection.Minus(whole, a), once)) {
			t.Fatalf("mask %d and its inverse are not complements", seed)
		}
	}
}

// P15.2, P15.4, P15.6: a polygon of whole pixels is filled with the same pixels by Fill and by Inside.
func TestFillAsInside(t *testing.T) {
	for seed := range 40 {
		for _, polygon := range selection.Outline(nearRaster(seed), 100) {
			if !selection.Valid(polygon) {
				continue
			}
			filled, err := selection.Fill(polygon, of(1, 2, 3, 4))
			inside, other := selection.Inside([][]api.Point{polygon}, of(1, 2, 3, 4))
			if err != other || !raster.Equal(filled, inside) {
				t.Fatalf("%v is filled in two ways", polygon)
			}
		}
	}
}

// P1, R2, R4, R5: all calls with arbitrary polygons, rasters, rectangles and numbers.
func FuzzSelectionFollowsItsRules(f *testing.F) {
	f.Add([]byte{}, 0, 0, 0, 0, 0, 0, uint32(0), []byte{})
	f.Add([]byte{128, 128, 135, 131, 130, 137}, 1, 0, 2, 3, 9, 100, uint32(0xff0000ff), []byte{200, 0, 0, 100, 100, 255, 1})
	f.Add([]byte{128, 128, 135, 131, 130, 137, 140, 120, 128, 128}, 1, 65536, 65530, 0, 65536, 255, uint32(0x01020304), []byte{0, 1})
	f.Add([]byte{0, 0, 255, 0, 255, 255, 0, 255, 7, 100}, 2, -5, -3, 5, 6, 1, uint32(1), []byte{9, 0, 9, 0, 9, 0, 9, 0, 0, 9, 0, 9, 0, 9, 0, 9})
	f.Add([]byte{1, 2, 3, 4, 5, 6}, 1<<60, 1<<62, 7, 8, 9, -1, uint32(0x80), []byte{1})
	f.Fuzz(func(t *testing.T, steps []byte, scale, x, y, width, height, threshold int, colour uint32, alphas []byte) {
		var polygon []api.Point
		for step := range slices.Chunk(steps[:min(len(steps), 140)], 2) {
			if len(step) == 2 {
				polygon = append(polygon, pt(x+scale*(int(step[0])-128), scale*(int(step[1])-128)))
			}
		}
		if isValid(polygon) {
			expectValid(t, polygon)
		} else {
			expectInvalid(t, polygon)
		}
		expectCover(t, polygon, x, y, coverage(polygon, x, y))
		expectCover(t, polygon, width, height, coverage(polygon, width, height))
		p := of(uint8(colour>>24), uint8(colour>>16), uint8(colour>>8), uint8(colour))
		expectFilled(t, polygon, p)
		expectPainted(t, [][]api.Point{polygon, path(x, y), polygon[:len(polygon)/2]}, p)
		tiles := []api.TileAt{solid(0, 0, p)}
		for i, alpha := range alphas {
			if i%64 == 0 {
				tiles = append(tiles, api.TileAt{Pos: api.TilePos{X: x, Y: i / 128}})
			}
			tiles[len(tiles)-1].Tile[i%64] = of(0, 0, 0, alpha)
		}
		r, valid := api.Raster{Tiles: tiles}, rasterOf(solid(0, 0, of(0, 0, 0, 1)), solid(1, 0, of(5, 5, 5, uint8(threshold)|1)))
		for _, a := range []api.Raster{{}, r, valid} {
			expectOutlined(t, a, threshold)
			expectInverse(t, a, box(x, y, x+width, y+height))
			expectCombined(t, a, r)
			expectCombined(t, a, valid)
			if threshold >= 1 && threshold <= 255 {
				expectRestored(t, a, threshold, p)
			}
		}
	})
}
