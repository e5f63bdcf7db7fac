package raster_test

import (
	"slices"
	"testing"

	"gouache/api"
	"gouache/raster"
)

// image is Image, which must succeed.
func image(t *testing.T, r api.Raster, c api.Rect) api.Image {
	t.Helper()
	m, err := raster.Image(r, c)
	if err != api.OK || m.Rect != c {
		t.Fatalf("Image of %v: error %d, rectangle %v", c, err, m.Rect)
	}
	return m
}

// paste is Paste, which must succeed.
func paste(t *testing.T, r api.Raster, m api.Image) api.Raster {
	t.Helper()
	got, err := raster.Paste(r, m)
	if err != api.OK || !raster.Valid(got) {
		t.Fatalf("Paste into %v: error %d, raster %v", m.Rect, err, got.Tiles)
	}
	return got
}

// solid returns an image of equal pixels.
func solid(c api.Rect, p api.Pixel) api.Image {
	return api.Image{Rect: c, Pixels: slices.Repeat([]api.Pixel{p}, (c.X1-c.X0)*(c.Y1-c.Y0))}
}

// badRects returns rectangles that are not valid: empty ones in either direction, and ones that extend beyond the limits, up to those whose sides and areas wrap around.
func badRects() []api.Rect {
	return []api.Rect{
		{}, box(3, 3, 3, 5), box(3, 3, 5, 3), box(5, 3, 4, 9), box(3, 9, 9, 8), box(5, 5, 2, 2),
		box(-65537, 0, -65535, 1), box(0, -65537, 1, -65535), box(65535, 0, 65537, 1), box(0, 65535, 1, 65537),
		box(65536, 0, 65537, 1), box(0, 65536, 1, 65537), box(-65537, 0, -65536, 1), box(0, -65537, 1, -65536),
		box(-65537, 0, 65537, 1), box(greatest-1, 0, greatest, 1), box(least, least, least+1, least+1),
		box(least, least, greatest, greatest), box(greatest, greatest, least, least), box(least, 0, greatest, 1), box(greatest, 0, least, 1),
		box(-1<<62, 0, 1<<62, 2), box(0, 0, 1<<32, 1<<32), box(1<<62, 0, 1<<62+1, 1),
	}
}

// validRects returns valid rectangles with sides of at most 256: single pixels, whole tiles, and ones that begin and end within tiles, at the limits, too.
func validRects() []api.Rect {
	return []api.Rect{
		box(0, 0, 1, 1), box(-1, -1, 0, 0), box(0, 0, 8, 8), box(-8, -8, 8, 8), box(-9, -7, 9, 10), box(-3, 2, 4, 3), box(7, -12, 8, 12), box(1, 1, 7, 7),
		box(-128, -128, 128, 128), box(-150, -100, 106, 150), box(0, 0, 256, 1), box(0, 0, 1, 256), box(300, 300, 310, 310),
		box(-65536, 65280, -65280, 65536), box(65280, -65536, 65536, -65280), box(-65536, 65535, -65535, 65536), box(65535, -65536, 65536, -65535), box(65530, 65530, 65536, 65536),
	}
}

// P8.3: the bounds of no pixel, and of one pixel in each corner of the limits.
func TestBoundsOfSinglePixels(t *testing.T) {
	if b := raster.Bounds(api.Raster{}); b != (api.Rect{}) {
		t.Errorf("the bounds of the empty raster are %v", b)
	}
	for _, x := range []int{-65536, -65529, -65528, -9, -8, -1, 0, 7, 8, 65527, 65528, 65535} {
		for _, y := range []int{-65536, -65529, -65528, -9, -8, -1, 0, 7, 8, 65527, 65528, 65535} {
			for _, p := range []api.Pixel{of(0, 0, 0, 1), of(9, 9, 9, 255)} {
				if b := raster.Bounds(canvas{{X: x, Y: y}: p}.raster()); b != box(x, y, x+1, y+1) {
					t.Errorf("the bounds of the pixel at (%d, %d) are %v", x, y, b)
				}
			}
		}
	}
}

// P8.3: the bounds of several pixels in a tile, across tiles, and across the whole canvas.
func TestBounds(t *testing.T) {
	for _, x := range []struct {
		r    api.Raster
		want api.Rect
	}{
		{rasterOf(at(0, 0, different())), box(0, 0, 8, 8)},
		{rasterOf(at(-2, 1, different())), box(-16, 8, -8, 16)},
		{canvas{{X: 2, Y: 5}: of(1, 1, 1, 1), {X: 6, Y: 3}: of(1, 1, 1, 1)}.raster(), box(2, 3, 7, 6)},
		{canvas{{X: 7, Y: 7}: of(1, 1, 1, 1), {X: 8, Y: 8}: of(1, 1, 1, 1)}.raster(), box(7, 7, 9, 9)},
		{canvas{{X: -1, Y: 0}: of(1, 1, 1, 1), {X: 0, Y: -1}: of(1, 1, 1, 1)}.raster(), box(-1, -1, 1, 1)},
		{canvas{{X: 20, Y: -30}: of(1, 1, 1, 1), {X: -40, Y: 50}: of(1, 1, 1, 1), {X: 0, Y: 0}: of(1, 1, 1, 1)}.raster(), box(-40, -30, 21, 51)},
		{canvas{{X: -65536, Y: 65535}: of(1, 1, 1, 1), {X: 65535, Y: -65536}: of(1, 1, 1, 1)}.raster(), box(-65536, -65536, 65536, 65536)},
	} {
		if got := raster.Bounds(x.r); got != x.want {
			t.Errorf("the bounds are %v, not %v", got, x.want)
		}
	}
	for seed := range 60 {
		c := someCanvas(seed, seed)
		if got := raster.Bounds(c.raster()); got != c.bounds() {
			t.Errorf("the bounds of canvas %d are %v, not %v", seed, got, c.bounds())
		}
	}
}

// P8.3: rectangles of all kinds, empty ones and ones that are not valid among them.
func TestCrop(t *testing.T) {
	rects := append(badRects(), validRects()...)
	rects = append(rects, box(-65536, -65536, 65536, 65536), box(-70000, -70000, 0, 70000), box(least, 3, greatest, 5), box(-5, least, 5, greatest))
	for seed := range 30 {
		c := someCanvas(seed, 20*seed)
		for _, r := range rects {
			got := raster.Crop(c.raster(), r)
			expectRaster(t, "Crop", got, c.cropped(r).raster())
			if !raster.Valid(got) {
				t.Errorf("a raster cropped to %v is not valid", r)
			}
		}
	}
}

// P8.3: each side of the rectangle, and the tiles that lose all their visible pixels.
func TestCropOfSomeTiles(t *testing.T) {
	corner, whole := lit(63, of(1, 1, 1, 1)), different()
	r := rasterOf(at(0, 0, corner), at(1, 0, whole), at(0, 1, whole))
	part := func(keeps func(x, y int) bool) api.Tile {
		kept := whole
		for i := range kept {
			if !keeps(i%8, i/8) {
				kept[i] = api.Pixel{}
			}
		}
		return kept
	}
	for _, x := range []struct {
		c    api.Rect
		want api.Raster
	}{
		{box(0, 0, 16, 16), r},
		{box(0, 0, 7, 16), rasterOf(at(0, 1, part(func(x, y int) bool { return x < 7 })))},
		{box(0, 0, 16, 7), rasterOf(at(1, 0, part(func(x, y int) bool { return y < 7 })))},
		{box(7, 7, 8, 8), rasterOf(at(0, 0, corner))},
		{box(7, 7, 9, 9), rasterOf(at(0, 0, corner), at(1, 0, part(func(x, y int) bool { return x == 0 && y == 7 })), at(0, 1, part(func(x, y int) bool { return x == 7 && y == 0 })))},
		{box(8, 0, 100, 100), rasterOf(at(1, 0, whole))},
		{box(10, 3, 13, 4), rasterOf(at(1, 0, part(func(x, y int) bool { return x >= 2 && x < 5 && y == 3 })))},
		{box(0, 0, 7, 7), api.Raster{}},
		{box(16, 0, 24, 8), api.Raster{}},
		{box(16, 16, 0, 0), api.Raster{}},
		{box(4, 0, 4, 16), api.Raster{}},
		{api.Rect{}, api.Raster{}},
		{box(least, least, greatest, greatest), r},
		{box(7, least, greatest, 8), rasterOf(at(0, 0, corner), at(1, 0, whole))},
		{box(greatest, greatest, least, least), api.Raster{}},
	} {
		expectRaster(t, "Crop", raster.Crop(r, x.c), x.want)
	}
	expectRaster(t, "Crop of the empty raster", raster.Crop(api.Raster{}, box(0, 0, 9, 9)), api.Raster{})
	expectRaster(t, "Crop of 1024 tiles", raster.Crop(many(1024), box(0, 0, 256, 256)), many(1024))
	expectRaster(t, "Crop of 1024 tiles to some rows", raster.Crop(many(1024), box(0, 0, 256, 80)), many(320))
}

// P8.4: rectangles of all kinds, row by row.
func TestImage(t *testing.T) {
	for seed := range 20 {
		c := someCanvas(seed, 40*seed)
		for _, r := range validRects() {
			if got := image(t, c.raster(), r); !slices.Equal(got.Pixels, c.pixels(r)) {
				t.Errorf("the image of canvas %d in %v is wrong", seed, r)
			}
		}
	}
	whole := different()
	r := rasterOf(at(0, 0, whole))
	if got := image(t, r, box(6, 6, 9, 8)).Pixels; !slices.Equal(got, []api.Pixel{whole[54], whole[55], {}, whole[62], whole[63], {}}) {
		t.Errorf("the image of a corner is %v", got)
	}
	if got := image(t, r, box(0, 0, 8, 8)).Pixels; !slices.Equal(got, whole[:]) {
		t.Errorf("the image of a tile is %v", got)
	}
}

// P8.4: rectangles that are not valid, and sides of 256 and 257 and more.
func TestImageErrors(t *testing.T) {
	check := func(c api.Rect, want api.Errno) {
		t.Helper()
		for _, r := range []api.Raster{{}, many(1024), many(1025)} {
			m, err := raster.Image(r, c)
			if err != want || err != api.OK && (m.Rect != api.Rect{} || len(m.Pixels) != 0) {
				t.Errorf("Image of %v has the error %d, not %d, and %d pixels in %v", c, err, want, len(m.Pixels), m.Rect)
			}
		}
	}
	for _, c := range badRects() {
		check(c, api.ErrArg)
	}
	for _, c := range validRects() {
		check(c, api.OK)
	}
	check(box(0, 0, 256, 256), api.OK)
	check(box(0, 0, 257, 1), api.ErrBudget)
	check(box(0, 0, 1, 257), api.ErrBudget)
	check(box(-100, -100, 157, 157), api.ErrBudget)
	check(box(-65536, -65536, -65279, -65535), api.ErrBudget)
	check(box(-65536, -65536, 65536, 65536), api.ErrBudget)
	check(box(0, 0, 257, 65537), api.ErrArg)
}

// P8.4: images of all kinds, into rasters of all kinds: what lies outside of the rectangle stays.
func TestPaste(t *testing.T) {
	for seed := range 12 {
		for i, r := range validRects() {
			c := someCanvas(seed, 30*seed)
			m := api.Image{Rect: r, Pixels: scattered(seed+i, (r.X1-r.X0)*(r.Y1-r.Y0))}
			before := c.raster()
			c.paste(m)
			// A rectangle that begins within a tile may touch more than 1024 tiles.
			if want := c.raster(); len(want.Tiles) <= 1024 {
				expectRaster(t, "Paste", paste(t, before, m), want)
			} else {
				got, err := raster.Paste(before, m)
				expectError(t, "Paste", got, err, api.ErrMany)
			}
		}
	}
}

// P8.4: transparent pixels are pasted, too, without their colours; a tile without visible pixels disappears.
func TestPasteOfTransparentPixels(t *testing.T) {
	for _, invisible := range []api.Pixel{{}, of(1, 2, 3, 0)} {
		r := rasterOf(at(-1, 0, different()), at(0, 0, dot()), at(1, 0, different()))
		got := paste(t, r, solid(box(0, 0, 8, 8), invisible))
		expectRaster(t, "without the middle tile", got, rasterOf(at(-1, 0, different()), at(1, 0, different())))
		got = paste(t, r, solid(box(4, 2, 5, 3), invisible))
		expectRaster(t, "without the only pixel of a tile", got, rasterOf(at(-1, 0, different()), at(1, 0, different())))
		got = paste(t, r, solid(box(-8, 0, 16, 8), invisible))
		expectRaster(t, "without any tile", got, api.Raster{})
		expectRaster(t, "in the empty raster", paste(t, api.Raster{}, solid(box(-9, -9, 99, 99), invisible)), api.Raster{})
		expectRaster(t, "where there is nothing", paste(t, r, solid(box(16, 0, 40, 8), invisible)), r)
		half := different()
		for i := range half {
			if i%8 < 4 {
				half[i] = api.Pixel{}
			}
		}
		got = paste(t, r, solid(box(0, 0, 12, 8), invisible))
		expectRaster(t, "without one and a half tiles", got, rasterOf(at(-1, 0, different()), at(1, 0, half)))
	}
}

// P8.4: rectangles that are not valid, too few and too many pixels, and long sides; which of two errors is returned.
func TestPasteErrors(t *testing.T) {
	check := func(c api.Rect, n int, want api.Errno) {
		t.Helper()
		for _, r := range []api.Raster{{}, many(1), many(1024), many(1025)} {
			got, err := raster.Paste(r, api.Image{Rect: c, Pixels: slices.Repeat([]api.Pixel{of(1, 2, 3, 4)}, n)})
			expectError(t, "Paste", got, err, want)
		}
	}
	for _, c := range badRects() {
		for _, n := range []int{0, 1, 2, 3, 256, 257} {
			check(c, n, api.ErrArg)
		}
	}
	for _, c := range validRects() {
		area := (c.X1 - c.X0) * (c.Y1 - c.Y0)
		check(c, 0, api.ErrArg)
		check(c, area-1, api.ErrArg)
		check(c, area+1, api.ErrArg)
		check(c, 2*area, api.ErrArg)
	}
	check(box(0, 0, 257, 1), 257, api.ErrBudget)
	check(box(0, 0, 1, 257), 257, api.ErrBudget)
	check(box(-257, -257, 0, 0), 257*257, api.ErrBudget)
	check(box(0, 0, 8192, 8), 8192*8, api.ErrBudget)
	check(box(0, 0, 257, 1), 256, api.ErrArg)
	check(box(0, 0, 1, 257), 258, api.ErrArg)
	check(box(65535, 0, 65792, 1), 257, api.ErrArg)
}

// P8.4: only a result of more than 1024 tiles is too many, however the tiles come and go.
func TestPasteOfManyTiles(t *testing.T) {
	full, p := many(1024), of(1, 2, 3, 4)
	check := func(r api.Raster, m api.Image, tiles int) {
		t.Helper()
		got, err := raster.Paste(r, m)
		if tiles > 1024 {
			expectError(t, "Paste", got, err, api.ErrMany)
		} else if err != api.OK || len(got.Tiles) != tiles || !raster.Valid(got) {
			t.Errorf("Paste into %v of %d tiles has %d tiles, not %d, and the error %d", m.Rect, len(r.Tiles), len(got.Tiles), tiles, err)
		}
	}
	check(full, solid(box(-1, 0, 0, 1), p), 1025)
	check(full, solid(box(-1, 0, 1, 1), p), 1025)
	check(full, solid(box(255, 255, 257, 256), p), 1025)
	check(full, solid(box(300, 300, 301, 301), p), 1025)
	check(full, solid(box(300, 300, 301, 301), of(1, 2, 3, 0)), 1024)
	check(full, solid(box(0, 0, 256, 256), p), 1024)
	check(full, solid(box(0, 0, 256, 256), api.Pixel{}), 0)
	check(full, solid(box(0, 0, 256, 8), of(1, 2, 3, 0)), 992)
	check(many(1023), solid(box(300, 300, 301, 301), p), 1024)
	check(many(1022), solid(box(300, 300, 301, 309), p), 1024)
	check(many(1023), solid(box(300, 300, 301, 309), p), 1025)
	check(api.Raster{}, solid(box(8, 8, 264, 264), p), 1024)
	check(api.Raster{}, solid(box(9, 8, 265, 264), p), 33*32)
	check(api.Raster{}, solid(box(1, 1, 257, 257), p), 33*33)
	check(api.Raster{}, solid(box(1, 1, 257, 257), api.Pixel{}), 0)
	check(many(1025), solid(box(1, 1, 9, 9), p), 4)

	before, behind := solid(box(-8, 0, 8, 8), p), solid(box(248, 0, 264, 8), p)
	for y := range 8 {
		clear(before.Pixels[16*y+8 : 16*y+16])
		clear(behind.Pixels[16*y : 16*y+8])
	}
	check(full, before, 1024)
	check(full, behind, 1024)
}
