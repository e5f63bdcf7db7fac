package tile_test

import (
	"testing"

	"gouache/api"
	"gouache/tile"
)

// exactHalve computes each mean from the definition, in a square of 16 by 16 pixels.
func exactHalve(a, b, c, d api.Tile) api.Tile {
	var square [16][16]api.Pixel
	for y := range 8 {
		for x := range 8 {
			square[y][x], square[y][x+8] = a[8*y+x], b[8*y+x]
			square[y+8][x], square[y+8][x+8] = c[8*y+x], d[8*y+x]
		}
	}
	var half api.Tile
	for y := range 8 {
		for x := range 8 {
			half[8*y+x] = exactMean([4]api.Pixel{square[2*y][2*x], square[2*y][2*x+1], square[2*y+1][2*x], square[2*y+1][2*x+1]})
		}
	}
	return half
}

// exactMean returns the mean of four pixels, in which a colour counts as much as its pixel is opaque.
func exactMean(pixels [4]api.Pixel) api.Pixel {
	var red, green, blue, alpha int
	for _, p := range pixels {
		red += int(p.A) * int(p.R)
		green += int(p.A) * int(p.G)
		blue += int(p.A) * int(p.B)
		alpha += int(p.A)
	}
	// The quotient alpha / 4 is rounded to 0.
	if alpha < 2 {
		return api.Pixel{}
	}
	rounded := func(sum, count int) uint8 {
		quotient, rest := sum/count, sum%count
		if 2*rest >= count {
			quotient++
		}
		return uint8(quotient)
	}
	return of(rounded(red, alpha), rounded(green, alpha), rounded(blue, alpha), rounded(alpha, 4))
}

// P7.6: tiles of all kinds in each place.
func TestHalveIsTheMeanOfEachBlock(t *testing.T) {
	tiles := someTiles()
	for i, first := range tiles {
		for j, second := range tiles {
			third, fourth := scattered(i+j), tiles[(i+2*j)%len(tiles)]
			if got, want := tile.Halve(first, second, third, fourth), exactHalve(first, second, third, fourth); got != want {
				t.Fatalf("Halve, with tiles %d and %d at the top, is %v, not %v", i, j, got, want)
			}
			if got, want := tile.Halve(third, fourth, second, first), exactHalve(third, fourth, second, first); got != want {
				t.Fatalf("Halve, with tiles %d and %d at the bottom, is %v, not %v", j, i, got, want)
			}
		}
	}
}

// P7.6: each of the four tiles has its quarter, with nothing of its neighbours; the example of the chapter.
func TestHalveOfSolidTiles(t *testing.T) {
	a, b, c, d := of(1, 2, 3, 4), of(255, 0, 255, 255), of(7, 8, 9, 128), of(9, 9, 9, 255)
	got := tile.Halve(filled(a), filled(b), filled(c), filled(d))
	for i, p := range got {
		if want := [2][2]api.Pixel{{a, b}, {c, d}}[i/32][i%8/4]; p != want {
			t.Errorf("Halve is %v at %d, not %v", p, i, want)
		}
	}
	got = tile.Halve(api.Tile{}, coloured(), filled(of(1, 1, 1, 0)), tile.Fill(d))
	if tile.Get(got, 3, 3) != (api.Pixel{}) || tile.Get(got, 4, 4) != d {
		t.Errorf("Halve is %v", got)
	}
}

// P7.6: each single pixel of the square, those at the borders of the four tiles included, counts in its block and in no other one.
func TestHalveOfSinglePixels(t *testing.T) {
	p := of(200, 100, 50, 255)
	for k := range 4 {
		for i := range api.TilePixels {
			var tiles [4]api.Tile
			tiles[k][i] = p
			x, y := k%2*8+i%8, k/2*8+i/8
			want := with(api.Tile{}, y/2*8+x/2, of(200, 100, 50, 64))
			if got := tile.Halve(tiles[0], tiles[1], tiles[2], tiles[3]); got != want {
				t.Errorf("Halve of a pixel at (%d, %d) of the square is %v", x, y, got)
			}
		}
	}
}

// P7.6: results in numbers, where transparent, half transparent and opaque pixels meet.
func TestHalveOfSomeBlocks(t *testing.T) {
	for _, x := range []struct {
		block [4]api.Pixel
		want  api.Pixel
	}{
		{[4]api.Pixel{of(255, 0, 0, 255), of(255, 0, 0, 255), of(255, 0, 0, 255), of(0, 99, 0, 0)}, of(255, 0, 0, 191)},
		{[4]api.Pixel{of(255, 0, 0, 255), of(0, 255, 0, 255), of(0, 0, 255, 255), of(255, 255, 255, 255)}, of(128, 128, 128, 255)},
		{[4]api.Pixel{of(255, 0, 0, 255), {}, {}, of(0, 0, 255, 255)}, of(128, 0, 128, 128)},
		// The more opaque pixel has the greater share: 3 * 100 / 4, and 1 * 200 / 4 beside it.
		{[4]api.Pixel{of(100, 0, 7, 192), of(0, 200, 7, 64), of(1, 1, 1, 0), of(9, 9, 9, 0)}, of(75, 50, 7, 64)},
		{[4]api.Pixel{of(255, 10, 0, 255), of(0, 10, 255, 128), of(99, 99, 99, 0), of(255, 10, 0, 127)}, of(191, 10, 64, 128)},
		// Of the alphas 0.25, 0.5, 0.75 and 1.5, the first one leaves no colour.
		{[4]api.Pixel{of(7, 8, 9, 1), {}, {}, {}}, api.Pixel{}},
		{[4]api.Pixel{of(7, 8, 9, 1), {}, {}, of(8, 8, 8, 1)}, of(8, 8, 9, 1)},
		{[4]api.Pixel{of(7, 8, 9, 1), of(7, 8, 9, 2), {}, {}}, of(7, 8, 9, 1)},
		{[4]api.Pixel{of(7, 8, 9, 1), of(7, 8, 9, 2), of(7, 8, 9, 3), {}}, of(7, 8, 9, 2)},
		{[4]api.Pixel{of(255, 255, 255, 0), of(1, 1, 1, 0), of(0, 0, 1, 0), {}}, api.Pixel{}},
	} {
		for k := range 4 {
			for _, first := range []int{0, 6, 20, 48, 54} {
				var tiles [4]api.Tile
				for i, step := range []int{0, 1, 8, 9} {
					tiles[k][first+step] = x.block[i]
				}
				got := tile.Halve(tiles[0], tiles[1], tiles[2], tiles[3])
				if p := got[first/16*8+first%8/2+k%2*4+k/2*32]; p != x.want {
					t.Errorf("Halve of %v at %d of tile %d is %v, not %v", x.block, first, k, p, x.want)
				}
			}
		}
	}
}

// P7.7: a square of four equal solid tiles is halved to that tile, cleaned.
func TestHalveOfEqualSolidTiles(t *testing.T) {
	visible := different()
	for _, p := range append(somePixels(), visible[:]...) {
		all := filled(p)
		if got := tile.Halve(all, all, all, all); got != tile.Clean(all) {
			t.Errorf("Halve of four tiles of %v is %v", p, got)
		}
	}
	for alpha := range 256 {
		all := filled(of(uint8(alpha), 255, 1, uint8(alpha)))
		if got := tile.Halve(all, all, all, all); got != tile.Clean(all) {
			t.Errorf("Halve of four tiles of alpha %d is %v", alpha, got)
		}
	}
}
