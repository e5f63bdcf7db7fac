package selection_test

import (
	"slices"
	"testing"

	"gouache/api"
	"gouache/selection"
)

// P15.3: sets of pixels, with their polygons.
func TestOutline(t *testing.T) {
	for _, x := range []struct {
		lines []string
		want  [][]api.Point
	}{
		{nil, nil},
		{[]string{"9"}, [][]api.Point{square(0, 0, 1, 1)}},
		{[]string{"99"}, [][]api.Point{square(0, 0, 2, 1)}},
		{[]string{"9", "9"}, [][]api.Point{square(0, 0, 1, 2)}},
		{[]string{"9 9"}, [][]api.Point{square(0, 0, 1, 1), square(2, 0, 3, 1)}},
		{[]string{"9", " ", "9"}, [][]api.Point{square(0, 0, 1, 1), square(0, 2, 1, 3)}},
		{[]string{" 9", "99"}, [][]api.Point{path(1, 0, 2, 0, 2, 2, 0, 2, 0, 1, 1, 1)}},
		{[]string{"9 ", "99"}, [][]api.Point{path(0, 0, 1, 0, 1, 1, 2, 1, 2, 2, 0, 2)}},
		{[]string{"99", "9 "}, [][]api.Point{path(0, 0, 2, 0, 2, 1, 1, 1, 1, 2, 0, 2)}},
		{[]string{"99", " 9"}, [][]api.Point{path(0, 0, 2, 0, 2, 2, 1, 2, 1, 1, 0, 1)}},
		{[]string{"9 9", "999"}, [][]api.Point{path(0, 0, 1, 0, 1, 1, 2, 1, 2, 0, 3, 0, 3, 2, 0, 2)}},
		// Pixels that touch at a corner, in both directions: each has a polygon of its own.
		{[]string{"9 ", " 9"}, [][]api.Point{square(0, 0, 1, 1), square(1, 1, 2, 2)}},
		{[]string{" 9", "9 "}, [][]api.Point{square(1, 0, 2, 1), square(0, 1, 1, 2)}},
		{[]string{"9 9", " 9 ", "9 9"}, [][]api.Point{square(0, 0, 1, 1), square(2, 0, 3, 1), square(1, 1, 2, 2), square(0, 2, 1, 3), square(2, 2, 3, 3)}},
		// A hole, and holes in which there are pixels.
		{[]string{"999", "9 9", "999"}, [][]api.Point{square(0, 0, 3, 3), path(1, 2, 2, 2, 2, 1, 1, 1)}},
		{[]string{"99999", "9   9", "9 9 9", "9   9", "99999"}, [][]api.Point{square(0, 0, 5, 5), square(2, 2, 3, 3), path(1, 4, 4, 4, 4, 1, 1, 1)}},
		{[]string{"9999", "9 99", "99 9", "9999"}, [][]api.Point{square(0, 0, 4, 4), path(1, 2, 2, 2, 2, 3, 3, 3, 3, 2, 2, 2, 2, 1, 1, 1)}},
		// The polygon of two holes that touch at a corner comes back to its first corner before its end.
		{[]string{"9999", "99 9", "9 99", "9999"}, [][]api.Point{square(0, 0, 4, 4), path(2, 2, 3, 2, 3, 1, 2, 1, 2, 2, 1, 2, 1, 3, 2, 3)}},
		{[]string{"9999", "9 99", "99 9", "9 99", "9999"}, [][]api.Point{square(0, 0, 4, 5), path(1, 2, 2, 2, 2, 3, 1, 3, 1, 4, 2, 4, 2, 3, 3, 3, 3, 2, 2, 2, 2, 1, 1, 1)}},
		// A hole that touches the outside at a corner has no polygon of its own.
		{[]string{"99 ", "9 9", "999"}, [][]api.Point{path(0, 0, 2, 0, 2, 1, 1, 1, 1, 2, 2, 2, 2, 1, 3, 1, 3, 3, 0, 3)}},
		{[]string{" 99", "9 9", "999"}, [][]api.Point{path(1, 0, 3, 0, 3, 3, 0, 3, 0, 1, 1, 1, 1, 2, 2, 2, 2, 1, 1, 1)}},
		{[]string{"999", "9 9", "99 "}, [][]api.Point{path(0, 0, 3, 0, 3, 2, 2, 2, 2, 1, 1, 1, 1, 2, 2, 2, 2, 3, 0, 3)}},
		{[]string{"999", "9 9", " 99"}, [][]api.Point{path(0, 0, 3, 0, 3, 3, 1, 3, 1, 2, 2, 2, 2, 1, 1, 1, 1, 2, 0, 2)}},
		// Polygons begin with the least Y, then the least X, of the upper edges that are left: not with the upper left corner of what they surround.
		{[]string{"  9", "  9", "999"}, [][]api.Point{path(2, 0, 3, 0, 3, 3, 0, 3, 0, 2, 2, 2)}},
		{[]string{"9  9", "9  9", "9999"}, [][]api.Point{path(0, 0, 1, 0, 1, 2, 3, 2, 3, 0, 4, 0, 4, 3, 0, 3)}},
		{[]string{"    9", "9999 ", "9  9 ", "9999 "}, [][]api.Point{square(4, 0, 5, 1), square(0, 1, 4, 4), path(1, 3, 3, 3, 3, 2, 1, 2)}},
	} {
		for _, by := range [][2]int{{0, 0}, {-2, -1}, {7, 5}, {lowest, lowest}, {highest - 5, highest - 5}, {-300, 200}} {
			var want [][]api.Point
			for _, polygon := range x.want {
				want = append(want, moved(polygon, by[0], by[1]))
			}
			expectOutline(t, drawn(by[0], by[1], x.lines...), 1, want)
		}
	}
}

// P15.3: a pixel belongs to the set if its alpha is at least the threshold.
func TestOutlineThresholds(t *testing.T) {
	row := api.TileAt{}
	for i, alpha := range []uint8{1, 2, 100, 101, 254, 255} {
		row.Tile[i] = of(200, 0, 0, alpha)
	}
	r := rasterOf(row)
	for _, x := range []struct{ threshold, from int }{{1, 0}, {2, 1}, {3, 2}, {100, 2}, {101, 3}, {102, 4}, {254, 4}, {255, 5}} {
		expectOutline(t, r, x.threshold, [][]api.Point{square(x.from, 0, 6, 1)})
	}
	for _, threshold := range []int{0, -1, -255, -256, least, 256, 257, 511, 1 << 32, 1<<32 + 1, greatest} {
		for _, some := range append(rasters(), r, rows(1024, -8192, -8192, of(0, 0, 0, 255))) {
			expectOutline(t, some, threshold, nil)
		}
	}
}

// P15.3: rasters that are not valid are empty.
func TestOutlineOfInvalidRasters(t *testing.T) {
	for _, r := range invalidRasters() {
		for _, threshold := range []int{least, 0, 1, 255, 256} {
			expectOutline(t, r, threshold, nil)
		}
	}
}

// P15.3: sets of pixels in several tiles.
func TestOutlineAcrossTiles(t *testing.T) {
	black := of(0, 0, 0, 255)
	expectOutline(t, rows(1, 0, 0, black), 255, [][]api.Point{square(0, 0, 8, 8)})
	expectOutline(t, rows(1024, -16, -16, black), 255, [][]api.Point{square(-128, -128, 128, 128)})
	expectOutline(t, rasterOf(solid(0, 0, black), solid(1, 1, black)), 9, [][]api.Point{square(0, 0, 8, 8), square(8, 8, 16, 16)})
	expectOutline(t, rasterOf(solid(0, 1, black), solid(1, 0, black)), 9, [][]api.Point{square(8, 0, 16, 8), square(0, 8, 8, 16)})
	// The first upper edge is in the tile on the right, in the row of tiles that the tile on the left begins.
	lower := solid(0, 0, black)
	clear(lower.Tile[:32])
	expectOutline(t, rasterOf(lower, solid(1, 0, black)), 9, [][]api.Point{path(8, 0, 16, 0, 16, 8, 0, 8, 0, 4, 8, 4)})
	expectOutline(t, rasterOf(lower, solid(2, 0, black)), 9, [][]api.Point{square(16, 0, 24, 8), square(0, 4, 8, 8)})
}

// P15.3: pixels in the corners of the limits.
func TestOutlineAtLimits(t *testing.T) {
	black := of(0, 0, 0, 255)
	corners := rasterOf(solid(-8192, -8192, black), solid(8191, -8192, black), solid(-8192, 8191, black), solid(8191, 8191, black))
	expectOutline(t, corners, 1, [][]api.Point{
		square(lowest, lowest, lowest+8, lowest+8), square(highest-8, lowest, highest, lowest+8), square(lowest, highest-8, lowest+8, highest), square(highest-8, highest-8, highest, highest),
	})
	// A row of tiles along each side of the canvas, or as much of it as a raster may have.
	expectOutline(t, rasterOf(slices.Collect(func(yield func(api.TileAt) bool) {
		for i := range 1024 {
			yield(solid(8191-i, 8191, black))
		}
	})...), 1, [][]api.Point{square(highest-8192, highest-8, highest, highest)})
}

// P15.3: all sets of pixels in a square of four by four, and in some of five by five.
func TestOutlineOfSmallSets(t *testing.T) {
	for n := range 1 << 16 {
		var tile api.Tile
		for i := range 16 {
			tile[8*(i/4)+i%4].A = uint8(n >> i & 1)
		}
		if n > 0 {
			r := rasterOf(api.TileAt{Tile: tile})
			if got, want := selection.Outline(r, 1), outline(r, 1); !isSame(got, want) {
				t.Fatalf("the outline of set %x is %v, not %v", n, got, want)
			}
		}
	}
	for seed := range 3000 {
		next := scatter(seed)
		var tile api.Tile
		for i := range 25 {
			tile[8*(i/5)+i%5+9] = of(1, 1, 1, uint8(1+next(3)))
		}
		r := rasterOf(api.TileAt{Pos: api.TilePos{X: -1, Y: 3}, Tile: tile})
		for threshold := 1; threshold <= 3; threshold++ {
			expectOutlined(t, r, threshold)
		}
	}
}

// P15.3: rasters of all kinds.
func TestOutlineOfManyRasters(t *testing.T) {
	for _, r := range rasters() {
		for _, threshold := range []int{1, 2, 100, 128, 255} {
			expectOutlined(t, r, threshold)
		}
	}
	for seed := range 60 {
		expectOutlined(t, scatteredRaster(seed, seed, seed%2 == 0), 1+40*(seed%7))
	}
}

// P15.3: the polygons together consist of the edges between the pixels of the set and the others, once each.
func TestOutlineHasEachEdgeOnce(t *testing.T) {
	for seed := range 40 {
		r, threshold := scatteredRaster(seed, 20, false), 1+30*(seed%9)
		pixels := pixelsOf(r)
		has := func(x, y int) bool { return int(pixels[pt(x, y)].A) >= threshold }
		edges := map[side]bool{}
		for _, polygon := range selection.Outline(r, threshold) {
			for i, from := range polygon {
				to := polygon[(i+1)%len(polygon)]
				length := max(to.X-from.X, from.X-to.X) + max(to.Y-from.Y, from.Y-to.Y)
				if length == 0 || from.X != to.X && from.Y != to.Y {
					t.Fatalf("the edge from %v to %v", from, to)
				}
				for n := range length {
					s := side{from.X + n*(to.X-from.X)/length, from.Y + n*(to.Y-from.Y)/length, (to.X - from.X) / length, (to.Y - from.Y) / length}
					if edges[s] {
						t.Fatalf("the edge %v is there twice", s)
					}
					edges[s] = true
				}
			}
		}
		count := 0
		for p := range pixels {
			if !has(p.X, p.Y) {
				continue
			}
			for s, isEdge := range map[side]bool{{p.X, p.Y, 1, 0}: !has(p.X, p.Y-1), {p.X + 1, p.Y, 0, 1}: !has(p.X+1, p.Y), {p.X + 1, p.Y + 1, -1, 0}: !has(p.X, p.Y+1), {p.X, p.Y + 1, 0, -1}: !has(p.X-1, p.Y)} {
				if isEdge != edges[s] {
					t.Fatalf("the edge %v of the pixel %v: %v", s, p, edges[s])
				}
				if isEdge {
					count++
				}
			}
		}
		if count != len(edges) {
			t.Fatalf("%d edges, not %d", len(edges), count)
		}
	}
}

// P15.3: sets with as many pixels and as many polygons as there can be.
func TestOutlineOfManyPixels(t *testing.T) {
	board := api.TileAt{}
	for i := range board.Tile {
		board.Tile[i].A = uint8((i/8 + i%8) % 2)
	}
	var tiles []api.TileAt
	for i := range 1024 {
		board.Pos = api.TilePos{X: i%32 - 16, Y: i/32 - 16}
		tiles = append(tiles, board)
	}
	r := rasterOf(tiles...)
	got := selection.Outline(r, 1)
	if !isSame(got, outline(r, 1)) || len(got) != 32768 {
		t.Errorf("the chessboard has %d polygons", len(got))
	}
}
