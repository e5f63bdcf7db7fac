package selection_test

import (
	"slices"
	"testing"

	"gouache/api"
	"gouache/pixel"
	"gouache/raster"
	"gouache/selection"
)

// isValid is Valid, as the terminology says it.
func isValid(polygon []api.Point) bool {
	if len(polygon) < 3 || len(polygon) > 64 {
		return false
	}
	for _, p := range polygon {
		if p.X < lowest || p.X > highest || p.Y < lowest || p.Y > highest {
			return false
		}
	}
	return true
}

// isCrossed reports whether the ray to the right from the point (u, v), in eighths, crosses an edge.
func isCrossed(a, b api.Point, u, v int) bool {
	if (8*a.Y > v) == (8*b.Y > v) {
		return false
	}
	// The difference of the coordinates, times that of the heights, which changes the sign if it is negative.
	difference := (8*a.X-u)*(b.Y-a.Y) + (v-8*a.Y)*(b.X-a.X)
	return difference != 0 && (difference > 0) == (b.Y > a.Y)
}

// isInside reports whether the point (u, v), in eighths, is inside a list of polygons.
func isInside(paths [][]api.Point, u, v int) bool {
	crossed := 0
	for _, polygon := range paths {
		for i := range polygon {
			before := i - 1
			if before < 0 {
				before = len(polygon) - 1
			}
			if isCrossed(polygon[before], polygon[i], u, v) {
				crossed++
			}
		}
	}
	return crossed%2 == 1
}

// extent returns the least and the greatest coordinates of the points of polygons, and false if there are none.
func extent(paths ...[]api.Point) (api.Rect, bool) {
	var xs, ys []int
	for _, p := range slices.Concat(paths...) {
		xs, ys = append(xs, p.X), append(ys, p.Y)
	}
	if len(xs) == 0 {
		return api.Rect{}, false
	}
	return box(slices.Min(xs), slices.Min(ys), slices.Max(xs), slices.Max(ys)), true
}

// bounds is Bounds, as P15.1 says it.
func bounds(polygon []api.Point) api.Rect {
	r, _ := extent(polygon)
	if !isValid(polygon) || r.X0 == r.X1 || r.Y0 == r.Y1 {
		return api.Rect{}
	}
	return r
}

// coverage is Cover, as P15.1 says it.
func coverage(polygon []api.Point, x, y int) int {
	b := bounds(polygon)
	if x < b.X0 || x >= b.X1 || y < b.Y0 || y >= b.Y1 {
		return 0
	}
	n := 0
	for i := range 4 {
		for j := range 4 {
			if isInside([][]api.Point{polygon}, 8*x+2*i+1, 8*y+2*j+1) {
				n++
			}
		}
	}
	return (255*n + 8) / 16
}

// filled is Fill, as P15.2 says it.
func filled(polygon []api.Point, p api.Pixel) (api.Raster, api.Errno) {
	b := bounds(polygon)
	switch {
	case !isValid(polygon):
		return api.Raster{}, api.ErrArg
	case b.X1-b.X0 > 256 || b.Y1-b.Y0 > 256:
		return api.Raster{}, api.ErrBudget
	}
	pixels := map[api.Point]api.Pixel{}
	for y := b.Y0; y < b.Y1; y++ {
		for x := b.X0; x < b.X1; x++ {
			pixels[pt(x, y)] = pixel.Fade(p, coverage(polygon, x, y))
		}
	}
	return tiled(pixels)
}

// inside is Inside, as P15.4 says it.
func inside(paths [][]api.Point, p api.Pixel) (api.Raster, api.Errno) {
	if len(paths) > 1024 {
		return api.Raster{}, api.ErrArg
	}
	for _, polygon := range paths {
		for _, p := range polygon {
			if p.X < lowest || p.X > highest || p.Y < lowest || p.Y > highest || len(polygon) > 4096 {
				return api.Raster{}, api.ErrArg
			}
		}
	}
	b, _ := extent(paths...)
	if b.X1-b.X0 > 256 || b.Y1-b.Y0 > 256 {
		return api.Raster{}, api.ErrBudget
	}
	pixels := map[api.Point]api.Pixel{}
	for y := b.Y0 - 1; y <= b.Y1; y++ {
		for x := b.X0 - 1; x <= b.X1; x++ {
			if isInside(paths, 8*x+4, 8*y+4) {
				pixels[pt(x, y)] = p
			}
		}
	}
	return tiled(pixels)
}

// side is a side of a pixel: its first corner and its direction.
type side struct{ x, y, dx, dy int }

// outline is Outline, as P15.3 says it.
func outline(r api.Raster, threshold int) [][]api.Point {
	if threshold < 1 {
		return nil
	}
	pixels := pixelsOf(r)
	has := func(x, y int) bool { return int(pixels[pt(x, y)].A) >= threshold }
	starting := map[api.Point][]side{}
	var upper []side
	add := func(s side) { starting[pt(s.x, s.y)] = append(starting[pt(s.x, s.y)], s) }
	for p := range pixels {
		if !has(p.X, p.Y) {
			continue
		}
		if !has(p.X, p.Y-1) {
			add(side{p.X, p.Y, 1, 0})
			upper = append(upper, side{p.X, p.Y, 1, 0})
		}
		if !has(p.X+1, p.Y) {
			add(side{p.X + 1, p.Y, 0, 1})
		}
		if !has(p.X, p.Y+1) {
			add(side{p.X + 1, p.Y + 1, -1, 0})
		}
		if !has(p.X-1, p.Y) {
			add(side{p.X, p.Y + 1, 0, -1})
		}
	}
	slices.SortFunc(upper, func(a, b side) int {
		if a.y != b.y {
			return a.y - b.y
		}
		return a.x - b.x
	})
	var all [][]api.Point
	used := map[side]bool{}
	for _, first := range upper {
		if !used[first] {
			all = append(all, followed(first, starting, used))
		}
	}
	return all
}

// followed returns the corners of the polygon that begins with a side, given the sides that start at each corner.
func followed(first side, starting map[api.Point][]side, used map[side]bool) []api.Point {
	var points []api.Point
	for s := first; ; {
		used[s] = true
		end := pt(s.x+s.dx, s.y+s.dy)
		next := starting[end][0]
		if other := starting[end]; len(other) == 2 && other[1].dx == -s.dy && other[1].dy == s.dx {
			next = other[1]
		}
		if next.dx != s.dx || next.dy != s.dy {
			points = append(points, end)
		}
		if s = next; s == first {
			break
		}
	}
	// The first corner is reached last.
	if last := len(points) - 1; points[last] == pt(first.x, first.y) {
		points = append(points[last:], points[:last]...)
	}
	return points
}

// combined is a mask of the values of two masks, as P15.5 says it.
func combined(a, b api.Raster, value func(x, y int) int) api.Raster {
	left, right := pixelsOf(a), pixelsOf(b)
	pixels := map[api.Point]api.Pixel{}
	for _, some := range []map[api.Point]api.Pixel{left, right} {
		for p := range some {
			pixels[p] = of(0, 0, 0, uint8(value(int(left[p].A), int(right[p].A))))
		}
	}
	tiles := tilesOf(pixels)
	return api.Raster{Tiles: tiles[:min(len(tiles), 1024)]}
}

// union is Union, as P15.5 says it.
func union(a, b api.Raster) api.Raster {
	return combined(a, b, func(x, y int) int { return max(x, y) })
}

// common is Common, as P15.5 says it.
func common(a, b api.Raster) api.Raster {
	return combined(a, b, func(x, y int) int { return min(x, y) })
}

// minus is Minus, as P15.5 says it: the product is rounded to the nearest integer, which no half is between.
func minus(a, b api.Raster) api.Raster {
	return combined(a, b, func(x, y int) int { return (x*(255-y) + 127) / 255 })
}

// inverse is Inverse, as P15.5 says it.
func inverse(a api.Raster, r api.Rect) (api.Raster, api.Errno) {
	switch {
	case r.X0 >= r.X1 || r.Y0 >= r.Y1 || r.X0 < lowest || r.Y0 < lowest || r.X1 > highest || r.Y1 > highest:
		return api.Raster{}, api.ErrArg
	case r.X1-r.X0 > 256 || r.Y1-r.Y0 > 256:
		return api.Raster{}, api.ErrBudget
	}
	before, after := pixelsOf(a), map[api.Point]api.Pixel{}
	for y := r.Y0; y < r.Y1; y++ {
		for x := r.X0; x < r.X1; x++ {
			after[pt(x, y)] = of(0, 0, 0, 255-before[pt(x, y)].A)
		}
	}
	return tiled(after)
}

// pixelsOf returns the visible pixels of a raster, which are none if it is not valid.
func pixelsOf(r api.Raster) map[api.Point]api.Pixel {
	pixels := map[api.Point]api.Pixel{}
	if raster.Valid(r) {
		for _, t := range r.Tiles {
			for i, p := range t.Tile {
				if p.A > 0 {
					pixels[pt(8*t.Pos.X+i%8, 8*t.Pos.Y+i/8)] = p
				}
			}
		}
	}
	return pixels
}

// tilesOf returns the tiles of pixels, in order, without those that are transparent.
func tilesOf(pixels map[api.Point]api.Pixel) []api.TileAt {
	tiles := map[api.TilePos]*api.TileAt{}
	for place, p := range pixels {
		pos := api.TilePos{X: place.X >> 3, Y: place.Y >> 3}
		if p.A == 0 {
			continue
		}
		if tiles[pos] == nil {
			tiles[pos] = &api.TileAt{Pos: pos}
		}
		tiles[pos].Tile[8*(place.Y&7)+place.X&7] = p
	}
	var all []api.TileAt
	for _, t := range tiles {
		all = append(all, *t)
	}
	slices.SortFunc(all, inOrder)
	return all
}

// tiled returns the raster with these pixels, if it is not too large.
func tiled(pixels map[api.Point]api.Pixel) (api.Raster, api.Errno) {
	tiles := tilesOf(pixels)
	if len(tiles) > 1024 {
		return api.Raster{}, api.ErrMany
	}
	return api.Raster{Tiles: tiles}, api.OK
}

// isSame reports whether two lists of polygons are equal.
func isSame(a, b [][]api.Point) bool {
	return slices.EqualFunc(a, b, func(p, q []api.Point) bool { return slices.Equal(p, q) })
}

// copyOf returns polygons that share no memory with these.
func copyOf(paths [][]api.Point) [][]api.Point {
	var all [][]api.Point
	for _, polygon := range paths {
		all = append(all, slices.Clone(polygon))
	}
	return all
}

// expectRaster reports a call that returns another raster or error, or whose result the next call shares memory with.
func expectRaster(t *testing.T, name string, call func() (api.Raster, api.Errno), want api.Raster, wantErr api.Errno) {
	t.Helper()
	for range 2 {
		got, err := call()
		if err != wantErr || !slices.Equal(got.Tiles, want.Tiles) {
			t.Fatalf("%s returns %d tiles and the error %d, not %d and %d, or other tiles", name, len(got.Tiles), err, len(want.Tiles), wantErr)
		}
		if !raster.Valid(got) {
			t.Fatalf("%s returns a raster that is not valid", name)
		}
		for i := range got.Tiles[:cap(got.Tiles)] {
			got.Tiles[:cap(got.Tiles)][i] = solid(-7, -7, of(5, 5, 5, 5))
		}
	}
}

// expectFill reports another result of Fill, or a polygon that is not as it was.
func expectFill(t *testing.T, polygon []api.Point, p api.Pixel, want api.Raster, wantErr api.Errno) {
	t.Helper()
	before := slices.Clone(polygon)
	expectRaster(t, "Fill", func() (api.Raster, api.Errno) { return selection.Fill(polygon, p) }, want, wantErr)
	if !slices.Equal(polygon, before) {
		t.Fatalf("Fill changes %v", before)
	}
}

// expectFilled reports a result of Fill other than that of the model.
func expectFilled(t *testing.T, polygon []api.Point, p api.Pixel) {
	t.Helper()
	want, err := filled(polygon, p)
	expectFill(t, polygon, p, want, err)
}

// expectInside reports another result of Inside, or polygons that are not as they were.
func expectInside(t *testing.T, paths [][]api.Point, p api.Pixel, want api.Raster, wantErr api.Errno) {
	t.Helper()
	before := copyOf(paths)
	expectRaster(t, "Inside", func() (api.Raster, api.Errno) { return selection.Inside(paths, p) }, want, wantErr)
	if !isSame(paths, before) {
		t.Fatalf("Inside changes %v", before)
	}
}

// expectPainted reports a result of Inside other than that of the model.
func expectPainted(t *testing.T, paths [][]api.Point, p api.Pixel) {
	t.Helper()
	want, err := inside(paths, p)
	expectInside(t, paths, p, want, err)
}

// expectOutline reports another result of Outline, a raster that is not as it was, and polygons that share memory.
func expectOutline(t *testing.T, r api.Raster, threshold int, want [][]api.Point) {
	t.Helper()
	before := slices.Clone(r.Tiles)
	for range 2 {
		got := selection.Outline(r, threshold)
		if !isSame(got, want) {
			t.Fatalf("Outline of %v with the threshold %d is %v, not %v", pixelsOf(r), threshold, got, want)
		}
		for i, polygon := range got {
			clear(polygon[:cap(polygon)])
			if !isSame(got[i+1:], want[i+1:]) {
				t.Fatalf("polygon %d of %v shares memory with others", i, want)
			}
		}
		clear(got[:cap(got)])
	}
	if !slices.Equal(r.Tiles, before) {
		t.Fatal("Outline changes the raster")
	}
}

// expectOutlined reports a result of Outline other than that of the model.
func expectOutlined(t *testing.T, r api.Raster, threshold int) {
	t.Helper()
	expectOutline(t, r, threshold, outline(r, threshold))
}

// expectInverse reports a result of Inverse other than that of the model, or a raster that is not as it was.
func expectInverse(t *testing.T, a api.Raster, r api.Rect) {
	t.Helper()
	before := slices.Clone(a.Tiles)
	want, err := inverse(a, r)
	expectRaster(t, "Inverse", func() (api.Raster, api.Errno) { return selection.Inverse(a, r) }, want, err)
	if !slices.Equal(a.Tiles, before) {
		t.Fatal("Inverse changes the raster")
	}
}

// expectCombined reports results of Union, Common and Minus other than those of the model, or rasters that are not as they were.
func expectCombined(t *testing.T, a, b api.Raster) {
	t.Helper()
	left, right := slices.Clone(a.Tiles), slices.Clone(b.Tiles)
	for _, x := range []struct {
		name string
		call func(a, b api.Raster) api.Raster
		want api.Raster
	}{
		{"Union", selection.Union, union(a, b)},
		{"Common", selection.Common, common(a, b)},
		{"Minus", selection.Minus, minus(a, b)},
	} {
		expectRaster(t, x.name, func() (api.Raster, api.Errno) { return x.call(a, b), api.OK }, x.want, api.OK)
	}
	if !slices.Equal(a.Tiles, left) || !slices.Equal(b.Tiles, right) {
		t.Fatal("a call changes a raster")
	}
}
