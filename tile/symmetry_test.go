package tile_test

import (
	"testing"

	"gouache/api"
	"gouache/tile"
)

// symmetry is Flip or Turn, with its effect on the order of any four tiles of a square and of 64 coverages.
type symmetry struct {
	name     string
	apply    func(api.Tile) api.Tile
	square   func(a, b, c, d api.Tile) (api.Tile, api.Tile, api.Tile, api.Tile)
	position func(x, y int) (int, int)
}

// symmetries returns both of them; the order of tiles and coverages is written down from the chapter.
func symmetries() []symmetry {
	return []symmetry{
		{"Flip", tile.Flip, func(a, b, c, d api.Tile) (api.Tile, api.Tile, api.Tile, api.Tile) { return b, a, d, c }, func(x, y int) (int, int) { return 7 - x, y }},
		{"Turn", tile.Turn, func(a, b, c, d api.Tile) (api.Tile, api.Tile, api.Tile, api.Tile) { return c, a, d, b }, func(x, y int) (int, int) { return 7 - y, x }},
	}
}

// moved returns coverages that have moved as the pixels of a tile do.
func (s symmetry) moved(coverage [api.TilePixels]uint8) [api.TilePixels]uint8 {
	var result [api.TilePixels]uint8
	for y := range 8 {
		for x := range 8 {
			toX, toY := s.position(x, y)
			result[8*toY+toX] = coverage[8*y+x]
		}
	}
	return result
}

// P7.4: every pixel, in tiles of all kinds, one with 64 different pixels among them.
func TestFlipAndTurnMoveEachPixel(t *testing.T) {
	for _, s := range symmetries() {
		for i, all := range someTiles() {
			got := s.apply(all)
			for y := range 8 {
				for x := range 8 {
					if toX, toY := s.position(x, y); got[8*toY+toX] != all[8*y+x] {
						t.Fatalf("%s of tile %d does not move the pixel at (%d, %d) to (%d, %d): %v", s.name, i, x, y, toX, toY, got)
					}
				}
			}
		}
	}
}

// P7.4: the corners and the pixels beside them, by their indices, and the examples of the chapter.
func TestFlipAndTurnOfSomePixels(t *testing.T) {
	for from, to := range map[int][2]int{0: {7, 7}, 1: {6, 15}, 7: {0, 63}, 8: {15, 6}, 15: {8, 62}, 27: {28, 28}, 56: {63, 0}, 63: {56, 56}} {
		p, q := of(1, 2, 3, 4), of(5, 6, 7, 0)
		all := with(filled(p), from, q)
		if got := tile.Flip(all); got != with(filled(p), to[0], q) {
			t.Errorf("Flip of a tile with a pixel at %d is %v", from, got)
		}
		if got := tile.Turn(all); got != with(filled(p), to[1], q) {
			t.Errorf("Turn of a tile with a pixel at %d is %v", from, got)
		}
	}
	p, q := of(10, 20, 30, 255), of(255, 0, 0, 128)
	if got := tile.Get(tile.Flip(tile.Set(tile.Fill(p), 1, 0, q)), 6, 0); got != q {
		t.Errorf("flipped, the pixel at (6, 0) is %v", got)
	}
	if got := tile.Get(tile.Turn(tile.Set(tile.Fill(p), 1, 0, q)), 7, 1); got != q {
		t.Errorf("turned, the pixel at (7, 1) is %v", got)
	}
}

// P7.7: two flips, four turns, and flip, turn, flip, turn restore a tile, and fewer of them do not.
func TestSymmetriesRestoreATile(t *testing.T) {
	for i, all := range someTiles() {
		if tile.Flip(tile.Flip(all)) != all {
			t.Errorf("two flips change tile %d", i)
		}
		if tile.Turn(tile.Turn(tile.Turn(tile.Turn(all)))) != all {
			t.Errorf("four turns change tile %d", i)
		}
		if tile.Turn(tile.Flip(tile.Turn(tile.Flip(all)))) != all {
			t.Errorf("flip, turn, flip, turn change tile %d", i)
		}
	}
	all := different()
	if tile.Flip(all) == all || tile.Turn(all) == all || tile.Turn(tile.Turn(all)) == all || tile.Turn(tile.Flip(all)) == all {
		t.Errorf("a symmetry does nothing")
	}
}

// P7.7: Flip and Turn commute with Clean and Mask.
func TestSymmetriesCommuteWithCleanAndMask(t *testing.T) {
	for _, s := range symmetries() {
		for i, a := range someTiles() {
			if s.apply(tile.Clean(a)) != tile.Clean(s.apply(a)) {
				t.Errorf("%s does not commute with Clean of tile %d", s.name, i)
			}
			for j, b := range someTiles() {
				if s.apply(tile.Mask(a, b)) != tile.Mask(s.apply(a), s.apply(b)) {
					t.Errorf("%s does not commute with Mask of tiles %d and %d", s.name, i, j)
				}
			}
		}
	}
}

// P7.7: Flip and Turn commute with Over, in all modes, if they are applied to the coverage as well.
func TestSymmetriesCommuteWithOver(t *testing.T) {
	tiles := []api.Tile{different(), coloured(), scattered(2), scattered(3)}
	for _, s := range symmetries() {
		for _, mode := range allModes() {
			for i, a := range tiles {
				for j, b := range tiles {
					coverage := coverages(i + 4*j)
					if s.apply(tile.Over(a, b, mode, coverage)) != tile.Over(s.apply(a), s.apply(b), mode, s.moved(coverage)) {
						t.Errorf("%s does not commute with Over of tiles %d and %d in mode %d", s.name, i, j, mode)
					}
				}
			}
		}
	}
}

// P7.7: Flip and Turn commute with Halve, if the four tiles are rearranged as their pixels are.
func TestSymmetriesCommuteWithHalve(t *testing.T) {
	tiles := someTiles()
	for _, s := range symmetries() {
		for i := range tiles {
			a, b, c, d := tiles[i], scattered(i+10), scattered(i+20), tiles[len(tiles)-1-i]
			want := s.apply(tile.Halve(a, b, c, d))
			if got := tile.Halve(s.square(s.apply(a), s.apply(b), s.apply(c), s.apply(d))); got != want {
				t.Errorf("%s does not commute with Halve: %v is not %v", s.name, got, want)
			}
		}
	}
}
