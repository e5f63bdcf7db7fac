package tile_test

import (
	"testing"

	"gouache/api"
	"gouache/pixel"
	"gouache/tile"
)

// coverages returns a coverage that differs from pixel to pixel, in another order for each seed.
func coverages(seed int) [api.TilePixels]uint8 {
	var coverage [api.TilePixels]uint8
	values := [...]uint8{0, 1, 254, 255, 128, 127, 51}
	for i := range coverage {
		coverage[i] = values[(i+(seed&1023)+i/7)%len(values)]
	}
	return coverage
}

// allModes returns the blend modes, and integers that are none.
func allModes() []int {
	modes := []int{-1, 16, 17, 255, 256, 257, -15, 1 << 31, 1 << 32, 1<<32 + 1, -1 << 31, least, greatest}
	for mode := range 16 {
		modes = append(modes, mode)
	}
	return modes
}

// P7.3: all modes, and some that are none, with tiles and coverages of all kinds.
func TestOverIsOverOfEachPixel(t *testing.T) {
	for k, mode := range allModes() {
		for i, back := range someTiles() {
			for j, src := range someTiles() {
				coverage := coverages(i + 3*j + 5*k)
				got := tile.Over(back, src, mode, coverage)
				for n, p := range got {
					if want := pixel.Over(back[n], src[n], mode, int(coverage[n])); p != want {
						t.Fatalf("Over of tiles %d and %d in mode %d is %v at %d, not %v", i, j, mode, p, n, want)
					}
				}
			}
		}
	}
}

// P7.3: results in numbers; each pixel has its own coverage.
func TestOverOfSolidTiles(t *testing.T) {
	blue, red := of(0, 0, 255, 255), of(255, 0, 0, 255)
	var coverage [api.TilePixels]uint8
	want := filled(blue)
	coverage[0], want[0] = 255, red
	coverage[1], want[1] = 254, of(254, 0, 1, 255)
	coverage[2], want[2] = 1, of(1, 0, 254, 255)
	coverage[20], want[20] = 51, of(51, 0, 204, 255)
	coverage[63], want[63] = 128, of(128, 0, 127, 255)
	for _, mode := range []int{api.Normal, -1, 16, least, greatest} {
		if got := tile.Over(tile.Fill(blue), tile.Fill(red), mode, coverage); got != want {
			t.Errorf("Over in mode %d is %v, not %v", mode, got, want)
		}
	}
	for i := range api.TilePixels {
		for mode, channel := range map[int]uint8{api.Multiply: 78, api.Screen: 222, api.Difference: 100, api.Add: 255, api.Subtract: 0, api.Average: 150} {
			coverage = [api.TilePixels]uint8{}
			coverage[i] = 255
			grey := filled(of(100, 100, 100, 255))
			if got := tile.Over(grey, filled(of(200, 200, 200, 255)), mode, coverage); got != with(grey, i, of(channel, channel, channel, 255)) {
				t.Errorf("Over in mode %d, with coverage only at %d, is %v", mode, i, got)
			}
		}
	}
}

// P7.3: without coverage, a tile is only cleaned.
func TestOverWithoutCoverage(t *testing.T) {
	for _, mode := range allModes() {
		for i, back := range someTiles() {
			for j, src := range someTiles() {
				if got := tile.Over(back, src, mode, [api.TilePixels]uint8{}); got != tile.Clean(back) {
					t.Fatalf("Over of tiles %d and %d in mode %d without coverage is %v", i, j, mode, got)
				}
			}
		}
	}
}

// P7.3: the alpha of the mask counts at each index, and its colour does not.
func TestMaskIsFadeOfEachPixel(t *testing.T) {
	for i, all := range someTiles() {
		for j, mask := range someTiles() {
			got := tile.Mask(all, mask)
			for n, p := range got {
				if want := pixel.Fade(all[n], int(mask[n].A)); p != want {
					t.Fatalf("Mask of tiles %d and %d is %v at %d, not %v", i, j, p, n, want)
				}
			}
		}
	}
}

// P7.3: a mask of alpha 0 hides everything, one of alpha 255 only cleans, and the ones between multiply.
func TestMaskOfSomeAlphas(t *testing.T) {
	for i, all := range someTiles() {
		for _, p := range []api.Pixel{{}, of(255, 1, 7, 0), of(255, 255, 255, 0)} {
			if got := tile.Mask(all, tile.Fill(p)); got != (api.Tile{}) {
				t.Errorf("Mask of tile %d by %v is %v", i, p, got)
			}
			p.A = 255
			if got := tile.Mask(all, tile.Fill(p)); got != tile.Clean(all) {
				t.Errorf("Mask of tile %d by %v is %v", i, p, got)
			}
		}
	}
	all, mask := filled(of(10, 20, 30, 255)), api.Tile{}
	want := mask
	for i := range mask {
		mask[i] = of(uint8(7*i), 0, 255, uint8(4*i+3))
		want[i] = of(10, 20, 30, uint8(4*i+3))
	}
	if got := tile.Mask(all, mask); got != want {
		t.Errorf("Mask is %v, not %v", got, want)
	}
	all, mask = with(all, 63, of(1, 2, 3, 128)), with(filled(of(9, 9, 9, 255)), 63, of(9, 9, 9, 128))
	if got := tile.Mask(all, mask); got != with(all, 63, of(1, 2, 3, 64)) {
		t.Errorf("Mask is %v", got)
	}
}
