package rect_test

import (
	"iter"
	"slices"
	"testing"

	"gouache/api"
	"gouache/rect"
)

// pos returns the position of a tile.
func pos(x, y int) api.TilePos {
	return api.TilePos{X: x, Y: y}
}

// firstOf returns the first positions that are yielded, at most count of them, and all of them if count is negative.
func firstOf(tiles iter.Seq[api.TilePos], count int) []api.TilePos {
	var positions []api.TilePos
	for p := range tiles {
		positions = append(positions, p)
		if len(positions) == count {
			break
		}
	}
	return positions
}

// tilesByPoints returns the positions of the tiles of all points of r, in their order, from the pixels that each tile covers.
func tilesByPoints(r api.Rect) []api.TilePos {
	var positions []api.TilePos
	for ty := -4; ty <= 4; ty++ {
		for tx := -4; tx <= 4; tx++ {
			covers := false
			for y := max(8*ty, r.Y0); y <= min(8*ty+7, r.Y1-1); y++ {
				for x := max(8*tx, r.X0); x <= min(8*tx+7, r.X1-1); x++ {
					covers = true
				}
			}
			if covers {
				positions = append(positions, pos(tx, ty))
			}
		}
	}
	return positions
}

// expectTiles reports positions other than the wanted ones.
func expectTiles(t *testing.T, r api.Rect, want ...api.TilePos) {
	t.Helper()
	if got := firstOf(rect.Tiles(r), len(want)+1); !slices.Equal(got, want) {
		t.Errorf("Tiles(%v) yields %v, not %v", r, got, want)
	}
}

// P3.4: the rectangle has 8 by 8 pixels; products and sums wrap around.
func TestOf(t *testing.T) {
	for _, x := range []struct {
		t    api.TilePos
		want api.Rect
	}{
		{pos(0, 0), of(0, 0, 8, 8)},
		{pos(-1, 1), of(-8, 8, 0, 16)},
		{pos(3, -2), of(24, -16, 32, -8)},
		{pos(8191, -8192), of(65528, -65536, 65536, -65528)},
		{pos(8192, 1<<50), of(65536, 1<<53, 65544, 1<<53+8)},
		{pos(-1<<60, 1<<60-2), of(least, greatest-15, least+8, greatest-7)},
		{pos(1<<60-1, 0), of(greatest-7, 0, least, 8)},
		{pos(1<<60, 1<<61), of(least, 0, least+8, 8)},
		{pos(greatest, least), of(-8, 0, 0, 8)},
	} {
		if got := rect.Of(x.t); got != x.want {
			t.Errorf("Of(%v) is %v, not %v", x.t, got, x.want)
		}
	}
}

// P3.4: all pixels of a tile have its position, with negative coordinates too, and at the limits of the integers.
func TestAt(t *testing.T) {
	for _, x := range []struct {
		n, want int
	}{
		{0, 0}, {7, 0}, {8, 1}, {15, 1}, {16, 2}, {-1, -1}, {-7, -1}, {-8, -1}, {-9, -2}, {-16, -2}, {-17, -3},
		{65535, 8191}, {65536, 8192}, {-65536, -8192}, {-65537, -8193},
		{greatest, 1<<60 - 1}, {greatest - 7, 1<<60 - 1}, {greatest - 8, 1<<60 - 2},
		{least, -1 << 60}, {least + 7, -1 << 60}, {least + 8, -1<<60 + 1},
	} {
		if got := rect.At(api.Point{X: x.n, Y: 20}); got != pos(x.want, 2) {
			t.Errorf("At(%d, 20) is %v", x.n, got)
		}
		if got := rect.At(api.Point{X: -20, Y: x.n}); got != pos(-3, x.want) {
			t.Errorf("At(-20, %d) is %v", x.n, got)
		}
	}
	for y := -9; y < 9; y++ {
		for x := -9; x < 9; x++ {
			p := rect.At(api.Point{X: x, Y: y})
			if x < 8*p.X || x > 8*p.X+7 || y < 8*p.Y || y > 8*p.Y+7 {
				t.Errorf("At(%d, %d) is %v", x, y, p)
			}
		}
	}
}

// P3.4: row by row, and from left to right.
func TestTilesInOrder(t *testing.T) {
	expectTiles(t, of(-1, 0, 9, 8), pos(-1, 0), pos(0, 0), pos(1, 0))
	expectTiles(t, of(-9, 7, 1, 9), pos(-2, 0), pos(-1, 0), pos(0, 0), pos(-2, 1), pos(-1, 1), pos(0, 1))
	expectTiles(t, of(0, 0, 8, 8), pos(0, 0))
	expectTiles(t, of(3, 3, 4, 4), pos(0, 0))
	expectTiles(t, of(7, 7, 9, 9), pos(0, 0), pos(1, 0), pos(0, 1), pos(1, 1))
	expectTiles(t, of(-8, -8, 0, 0), pos(-1, -1))
	expectTiles(t, of(-9, -1, -7, 0), pos(-2, -1), pos(-1, -1))
	expectTiles(t, of(70000, -70001, 70001, -70000), pos(8750, -8751))
}

// P3.4: all rectangles whose sides lie around those of some tiles, many of them empty.
func TestTilesAreThoseOfThePoints(t *testing.T) {
	sides := []int{-17, -16, -9, -8, -7, -1, 0, 1, 7, 8, 9, 16, 17}
	for _, x0 := range sides {
		for _, y0 := range []int{-9, -8, 0, 7} {
			for _, x1 := range sides {
				for _, y1 := range []int{-8, -7, 0, 8, 9} {
					r := of(x0, y0, x1, y1)
					if got, want := firstOf(rect.Tiles(r), -1), tilesByPoints(r); !slices.Equal(got, want) {
						t.Errorf("Tiles(%v) yields %v, not %v", r, got, want)
					}
				}
			}
		}
	}
}

// P3.4: nothing is yielded for empty rectangles, of both kinds, and the iterator can be used all the same.
func TestTilesOfEmptyRects(t *testing.T) {
	for _, r := range []api.Rect{{}, of(5, 0, 5, 8), of(0, 5, 8, 5), of(6, 0, 5, 8), of(0, 6, 8, 5), of(90, 90, 1, 1), of(greatest, 0, least, 1), of(0, greatest, 1, least), of(least, least, least, least)} {
		expectTiles(t, r)
	}
}

// P3.4: the sides of the tiles around these rectangles lie outside of the integers.
func TestTilesAtTheLimitsOfTheIntegers(t *testing.T) {
	last, first := 1<<60-1, -1<<60
	expectTiles(t, of(greatest-1, greatest-1, greatest, greatest), pos(last, last))
	expectTiles(t, of(greatest-9, 0, greatest, 1), pos(last-1, 0), pos(last, 0))
	expectTiles(t, of(least, least, least+1, least+1), pos(first, first))
	expectTiles(t, of(least, 0, least+9, 1), pos(first, 0), pos(first+1, 0))
	whole := of(least, least, greatest, greatest)
	if got, want := firstOf(rect.Tiles(whole), 3), []api.TilePos{pos(first, first), pos(first+1, first), pos(first+2, first)}; !slices.Equal(got, want) {
		t.Errorf("Tiles(%v) begins with %v, not %v", whole, got, want)
	}
	// More rows than could be visited.
	tall := of(-1, least, 1, greatest)
	if got, want := firstOf(rect.Tiles(tall), 3), []api.TilePos{pos(-1, first), pos(0, first), pos(-1, first+1)}; !slices.Equal(got, want) {
		t.Errorf("Tiles(%v) begins with %v, not %v", tall, got, want)
	}
}

// P3.4, R1: an iteration can be stopped at each tile, and begins anew each time; none is yielded after the stop.
func TestTilesCanBeStoppedAndRepeated(t *testing.T) {
	r := of(-9, 7, 1, 9)
	tiles := rect.Tiles(r)
	want := tilesByPoints(r)
	for count := 1; count <= len(want); count++ {
		var got []api.TilePos
		tiles(func(p api.TilePos) bool {
			got = append(got, p)
			return len(got) < count
		})
		if !slices.Equal(got, want[:count]) {
			t.Errorf("%d tiles were asked for and %v yielded", count, got)
		}
		if got := firstOf(tiles, -1); !slices.Equal(got, want) {
			t.Errorf("after a stop, %v is yielded, not %v", got, want)
		}
	}
}

// R1: two iterations over the same iterator do not disturb each other.
func TestTilesCanBeNested(t *testing.T) {
	tiles := rect.Tiles(of(0, 0, 16, 16))
	want := []api.TilePos{pos(0, 0), pos(1, 0), pos(0, 1), pos(1, 1)}
	var outer []api.TilePos
	for p := range tiles {
		outer = append(outer, p)
		if inner := firstOf(tiles, -1); !slices.Equal(inner, want) {
			t.Errorf("the inner iteration yields %v", inner)
		}
	}
	if !slices.Equal(outer, want) {
		t.Errorf("the outer iteration yields %v", outer)
	}
}

// P3.7: every point of r lies in exactly one of the tiles.
func TestEveryPointLiesInOneTile(t *testing.T) {
	for _, r := range []api.Rect{of(-9, -9, 9, 9), of(-8, -8, 8, 8), of(0, 0, 1, 1), of(-17, 3, -3, 22), of(65530, -65536, 65540, -65530), of(1<<40-3, -1<<40-3, 1<<40+3, -1<<40+3)} {
		tiles := firstOf(rect.Tiles(r), -1)
		for y := r.Y0; y < r.Y1; y++ {
			for x := r.X0; x < r.X1; x++ {
				p := api.Point{X: x, Y: y}
				count := 0
				for _, tile := range tiles {
					if rect.Has(rect.Of(tile), p) {
						count++
					}
				}
				if count != 1 || !slices.Contains(tiles, rect.At(p)) {
					t.Errorf("%v lies in %d of the tiles of %v", p, count, r)
				}
			}
		}
		for _, tile := range tiles {
			if rect.Empty(rect.Intersect(rect.Of(tile), r)) {
				t.Errorf("tile %v does not cover a point of %v", tile, r)
			}
		}
	}
}
