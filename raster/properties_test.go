package raster_test

import (
	"slices"
	"testing"

	"gouache/api"
	"gouache/raster"
)

// someRect returns a rectangle around the origin, often one that begins or ends within a tile, seldom an empty one.
func someRect(next func(int) int) api.Rect {
	x, y := next(60)-30, next(60)-30
	return box(x, y, x+1+next(30), y+1+next(30))
}

// P8.7: a long row of updates gives the raster that the pixels give, and each result is valid.
func TestUpdatesFollowThePixels(t *testing.T) {
	for seed := range 8 {
		next, c, r := scatter(seed), canvas{}, api.Raster{}
		for range 250 {
			x, y, all := next(64)-32, next(64)-32, scattered(next(1000), 64)
			switch next(8) {
			case 0:
				area := someRect(next)
				m := api.Image{Rect: area, Pixels: scattered(next(1000), (area.X1-area.X0)*(area.Y1-area.Y0))}
				c.paste(m)
				r = paste(t, r, m)
			case 1:
				area := box(-32, -32, 32, 32)
				area.X0, area.Y1 = area.X0+next(8), area.Y1-next(8)
				c, r = c.cropped(area), raster.Crop(r, area)
			case 2:
				c.paste(api.Image{Rect: box(x&^7, y&^7, x&^7+8, y&^7+8), Pixels: all})
				r = put(t, r, x>>3, y>>3, api.Tile(all))
			case 3:
				c.paste(solid(box(x&^7, y&^7, x&^7+8, y&^7+8), of(9, 9, 9, 0)))
				r = put(t, r, x>>3, y>>3, api.Tile{})
			default:
				c.set(x, y, all[0])
				r = set(t, r, x, y, all[0])
			}
			if want := c.raster(); !slices.Equal(r.Tiles, want.Tiles) || !raster.Valid(r) || raster.Bounds(r) != c.bounds() {
				t.Fatalf("with seed %d, the tiles are %v, not %v", seed, r.Tiles, want.Tiles)
			}
		}
	}
}

// P8.7: Get after Set returns the cleaned pixel, and all other pixels are unchanged.
func TestGetAfterSet(t *testing.T) {
	for seed := range 20 {
		c, next := someCanvas(seed, 100), scatter(seed)
		before := c.raster()
		for _, p := range append(scattered(seed, 10), api.Pixel{}, of(1, 2, 3, 0)) {
			at := api.Point{X: next(40) - 20, Y: next(40) - 20}
			after := set(t, before, at.X, at.Y, p)
			for y := -22; y < 22; y++ {
				for x := -22; x < 22; x++ {
					want := c[api.Point{X: x, Y: y}]
					if x == at.X && y == at.Y {
						want = p
						if p.A == 0 {
							want = api.Pixel{}
						}
					}
					if got := raster.Get(after, x, y); got != want {
						t.Fatalf("after Set of %v at %v, the pixel at (%d, %d) is %v, not %v", p, at, x, y, got, want)
					}
				}
			}
		}
	}
}

// P8.7: cropping to two rectangles in turn is cropping to their intersection.
func TestCropTwice(t *testing.T) {
	next := scatter(1)
	for seed := range 150 {
		r, a, b := someCanvas(seed, 150).raster(), someRect(next), someRect(next)
		both := box(max(a.X0, b.X0), max(a.Y0, b.Y0), min(a.X1, b.X1), min(a.Y1, b.Y1))
		got, want := raster.Crop(raster.Crop(r, a), b), raster.Crop(r, both)
		if !raster.Equal(got, want) || !raster.Equal(got, raster.Crop(raster.Crop(r, b), a)) {
			t.Errorf("cropped to %v and %v, the tiles are %v, not %v", a, b, got.Tiles, want.Tiles)
		}
	}
}

// P8.7: pasting the image of a rectangle of a raster into another one transfers exactly this rectangle.
func TestPasteOfAnImage(t *testing.T) {
	next := scatter(2)
	for seed := range 150 {
		from, to, area := someCanvas(seed, 150), someCanvas(-seed-1, 150), someRect(next)
		got := paste(t, to.raster(), image(t, from.raster(), area))
		want := canvas{}
		for p, value := range to {
			want[p] = value
		}
		for p := range to.cropped(area) {
			delete(want, p)
		}
		for p, value := range from.cropped(area) {
			want[p] = value
		}
		expectRaster(t, "a raster with a part of another one", got, want.raster())
	}
}

// guarded returns a raster of tiles behind which there are others in the same array, and a function that reports whether all of these are still as they were.
func guarded(tiles []api.TileAt) (api.Raster, func() bool) {
	array := append(slices.Clone(tiles), at(7000, 7000, different()), at(7001, 7000, different()))
	before := slices.Clone(array)
	return api.Raster{Tiles: array[:len(tiles)]}, func() bool { return slices.Equal(array, before) }
}

// overwrite replaces all tiles that a raster has, or has capacity for.
func overwrite(r api.Raster) {
	for i := range r.Tiles[:cap(r.Tiles)] {
		r.Tiles[:cap(r.Tiles)][i] = at(-7, -7, lit(5, of(5, 5, 5, 5)))
	}
}

// R3: arguments stay as they are, and results share no memory with them, wherever a tile is added, replaced or removed.
func TestRastersShareNoMemory(t *testing.T) {
	for _, n := range []int{0, 1, 2, 3, 40, 1024} {
		for _, place := range []int{0, 1, n / 2, n - 2, n - 1, n} {
			x, y := place%32, place/32
			r, isUnchanged := guarded(many(n).Tiles)
			var results [9]api.Raster
			results[0], _ = raster.Set(r, 8*x+1, 8*y+1, of(1, 2, 3, 4))
			results[1], _ = raster.Set(r, 8*x+place%8, 8*y+place/8%8, of(9, 9, 9, 0))
			results[2], _ = raster.Put(r, api.TilePos{X: x, Y: y}, different())
			results[3], _ = raster.Put(r, api.TilePos{X: x, Y: y}, api.Tile{})
			results[4], _ = raster.Put(r, api.TilePos{X: -1, Y: y}, different())
			results[5] = raster.Crop(r, box(-1<<20, -1<<20, 1<<20, 1<<20))
			results[6] = raster.Crop(r, box(0, 0, 8*x, 8*y+8))
			results[7], _ = raster.Paste(r, solid(box(8*x, 8*y, 8*x+9, 8*y+9), of(1, 2, 3, 4)))
			results[8], _ = raster.Paste(r, solid(box(8*x, 8*y, 8*x+9, 8*y+9), api.Pixel{}))
			if !isUnchanged() {
				t.Fatalf("with %d tiles, a call at %d has changed its argument", n, place)
			}
			for i := range results {
				kept := slices.Clone(results[i].Tiles)
				overwrite(results[i])
				if !isUnchanged() {
					t.Fatalf("with %d tiles, result %d at %d shares memory with the argument", n, i, place)
				}
				copy(results[i].Tiles, kept)
			}
		}
	}
}

// R3: a raster that is not valid stays as it is as well, and so do the pixels of an image; a raster does not change with its argument.
func TestArgumentsStayAsTheyAre(t *testing.T) {
	for i, bad := range invalidRasters() {
		r, isUnchanged := guarded(bad.Tiles)
		set(t, r, 5, 5, of(1, 1, 1, 1))
		put(t, r, 0, 0, different())
		m := api.Image{Rect: box(3, 3, 23, 23), Pixels: scattered(i, 400)}
		pixels := slices.Clone(m.Pixels)
		got := paste(t, r, m)
		raster.Changed(r, got)
		raster.Key(r)
		raster.Valid(r)
		raster.Get(r, 3, 3)
		if !isUnchanged() || !slices.Equal(m.Pixels, pixels) {
			t.Errorf("a call has changed raster %d, or an image", i)
		}
		want := slices.Clone(got.Tiles)
		clear(m.Pixels)
		overwrite(r)
		expectRaster(t, "a raster whose arguments have changed", got, rasterOf(want...))
	}
	r, isUnchanged := guarded(many(100).Tiles)
	m := image(t, r, box(0, 0, 99, 99))
	positions := raster.Changed(r, api.Raster{})
	clear(m.Pixels)
	clear(positions)
	if !isUnchanged() || raster.Same(m, image(t, r, box(0, 0, 99, 99))) || len(raster.Changed(r, many(100))) != 0 {
		t.Error("an image, or a list of positions, shares memory with its raster")
	}
}

// R4: each call returns the same result again.
func TestResultsStayTheSame(t *testing.T) {
	for i, r := range append(someRasters(), invalidRasters()...) {
		first, second := set(t, copied(r), -3, 4, of(1, 2, 3, 0)), set(t, r, -3, 4, of(1, 2, 3, 0))
		if !raster.Equal(first, second) || raster.Key(r) != raster.Key(copied(r)) || !raster.Same(image(t, r, box(-9, -9, 9, 9)), image(t, r, box(-9, -9, 9, 9))) || !raster.Equal(raster.Crop(r, box(-9, -9, 9, 9)), raster.Crop(r, box(-9, -9, 9, 9))) {
			t.Errorf("the results for raster %d have changed", i)
		}
	}
}

// P1: no call panics, whatever integers it is given, and however long a raster is that is not valid.
func TestArbitraryIntegers(t *testing.T) {
	values := []int{least, least + 1, -1 << 61, -65544, -65537, -65536, -8193, -8192, -1, 0, 1, 8191, 8192, 65535, 65536, 65543, 1 << 61, greatest - 1, greatest}
	r := rasterOf(at(-8192, -8192, different()), at(0, 0, different()), at(8191, 8191, different()))
	long := api.Raster{Tiles: slices.Repeat([]api.TileAt{at(greatest, least, dot()), at(0, 0, different())}, 20000)}
	for _, x := range values {
		for _, y := range values {
			inside := x >= -65536 && x <= 65535 && y >= -65536 && y <= 65535
			got, err := raster.Set(r, x, y, of(1, 1, 1, 1))
			if (err == api.OK) != inside || !raster.Valid(got) || inside && raster.Get(got, x, y) != of(1, 1, 1, 1) {
				t.Errorf("Set at (%d, %d) has the error %d", x, y, err)
			}
			got, err = raster.Put(r, api.TilePos{X: x, Y: y}, dot())
			inside = x >= -8192 && x <= 8191 && y >= -8192 && y <= 8191
			if (err == api.OK) != inside || !raster.Valid(got) || inside && raster.Tile(got, api.TilePos{X: x, Y: y}) != dot() {
				t.Errorf("Put at (%d, %d) has the error %d", x, y, err)
			}
			for _, c := range []api.Rect{box(x, y, x+1, y+1), box(x, y, y, x), box(least, x, y, greatest), box(x, least, greatest, y), box(x, x, y, y)} {
				m, err := raster.Image(r, c)
				if cropped := raster.Crop(r, c); !raster.Valid(cropped) || err == api.OK && !raster.Equal(cropped, paste(t, api.Raster{}, m)) {
					t.Errorf("Crop to %v is %v", c, cropped.Tiles)
				}
			}
		}
	}
	if raster.Valid(long) || raster.Get(long, 1, 0) != different()[1] || raster.Tile(long, api.TilePos{X: greatest, Y: least}) != dot() || raster.Bounds(long) != (api.Rect{}) || len(raster.Changed(long, r)) != 3 {
		t.Error("a long raster is not treated as one that is not valid")
	}
}

// P1: no call panics, and the promises hold, whatever the input is.
func FuzzRastersFollowTheirRules(f *testing.F) {
	f.Add(0, 0, 0, 0, 0, 8, 8)
	f.Add(1, -1, 9, -9, -9, 9, 9)
	f.Add(2, 65535, -65536, 65280, -65536, 65536, -65280)
	f.Add(3, 65536, -65537, 0, 0, 257, 1)
	f.Add(4, least, greatest, least, least, greatest, greatest)
	f.Fuzz(func(t *testing.T, seed, x, y, x0, y0, x1, y1 int) {
		c, p, area := someCanvas(seed, 60), scattered(seed, 1)[0], box(x0, y0, x1, y1)
		r := c.raster()
		got, err := raster.Set(r, x, y, p)
		inside := x >= -65536 && x <= 65535 && y >= -65536 && y <= 65535
		if (err == api.OK) != inside || !raster.Valid(got) {
			t.Errorf("Set at (%d, %d) has the error %d", x, y, err)
		}
		if inside {
			c.set(x, y, p)
			expectRaster(t, "Set", got, c.raster())
			r = got
		}
		if got := raster.Get(r, x, y); got != c[api.Point{X: x, Y: y}] {
			t.Errorf("the pixel at (%d, %d) is %v", x, y, got)
		}
		expectRaster(t, "Crop", raster.Crop(r, area), c.cropped(area).raster())
		m, err := raster.Image(r, area)
		if err == api.OK {
			expectRaster(t, "Paste", paste(t, api.Raster{}, m), c.cropped(area).raster())
			expectRaster(t, "Paste in the same place", paste(t, r, m), r)
		}
		if odd := rasterOf(at(x, y, dot()), at(x0, y0, different())); raster.Tile(odd, api.TilePos{X: x, Y: y}) != dot() || !raster.Equal(raster.Crop(odd, area), raster.Crop(raster.Crop(odd, area), area)) {
			t.Errorf("the raster of tiles at (%d, %d) and (%d, %d) is wrong", x, y, x0, y0)
		}
	})
}
