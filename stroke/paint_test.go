package stroke_test

import (
	"slices"
	"testing"

	"gouache/api"
	"gouache/pixel"
	"gouache/raster"
	"gouache/stroke"
)

// paint returns what Paint returns, without an error.
func paint(t *testing.T, r api.Raster, s api.Stroke) api.Raster {
	t.Helper()
	painted, err := stroke.Paint(r, s)
	if err != api.OK {
		t.Fatalf("Paint of %v returns the error %d", s, err)
	}
	return painted
}

// dotted returns a stroke whose dabs lie in the middles of n pixels in a row, and cover only these, wholly or with 191 of 255.
func dotted(n int, p api.Pixel, coverage int) api.Stroke {
	radius := map[int]int{191: 8, 255: 9}[coverage]
	points := []api.StrokePoint{at(8, 8, 255)}
	if n > 1 {
		points = append(points, at(8+16*(n-1)+1, 8, 255))
	}
	return coloured(brush(radius, 16, 0, points...), p)
}

// pixelsOf returns the first n pixels in the row of the origin.
func pixelsOf(r api.Raster, n int) []api.Pixel {
	var pixels []api.Pixel
	for x := range n {
		pixels = append(pixels, raster.Get(r, x, 0))
	}
	return pixels
}

// P14.4: each pixel with a coverage, by numbers from the definition of Over and of Fade.
func TestPaint(t *testing.T) {
	r := paint(t, api.Raster{}, dotted(3, of(200, 100, 50, 255), 191))
	if got := pixelsOf(r, 4); !slices.Equal(got, []api.Pixel{of(200, 100, 50, 191), of(200, 100, 50, 191), of(200, 100, 50, 191), {}}) {
		t.Errorf("painted: %v", got)
	}
	r = paint(t, r, dotted(1, of(0, 0, 255, 255), 191))
	if got := pixelsOf(r, 2); !slices.Equal(got, []api.Pixel{of(40, 20, 214, 239), of(200, 100, 50, 191)}) {
		t.Errorf("painted again: %v", got)
	}
	r = paint(t, r, dotted(2, of(0, 0, 255, 128), 191))
	if got := pixelsOf(r, 3); got[0] != pixel.Over(of(40, 20, 214, 239), of(0, 0, 255, 128), api.Normal, 191) || got[1] != pixel.Over(of(200, 100, 50, 191), of(0, 0, 255, 128), api.Normal, 191) || got[2] != of(200, 100, 50, 191) {
		t.Errorf("painted half transparent: %v", got)
	}
	r = paint(t, paint(t, api.Raster{}, dotted(3, of(200, 100, 50, 255), 191)), erasing(dotted(2, of(7, 8, 9, 10), 191)))
	if got := pixelsOf(r, 4); !slices.Equal(got, []api.Pixel{of(200, 100, 50, 48), of(200, 100, 50, 48), of(200, 100, 50, 191), {}}) {
		t.Errorf("erased: %v", got)
	}
}

// P14.4: what the model paints with strokes and rasters of all kinds.
func TestPaintOfManyStrokes(t *testing.T) {
	for _, s := range validStrokes() {
		expectPainted(t, api.Raster{}, s)
	}
	for seed := range 60 {
		s := scatteredStroke(seed)
		expectPainted(t, scatteredRaster(seed, 30), s)
		s.Erase = !s.Erase
		expectPainted(t, scatteredRaster(seed, 30), s)
	}
}

// P14.4: dabs are applied in order, also where they overlap: a dab that covers half of a pixel before one that covers all of it is something else than one after it.
func TestPaintInOrder(t *testing.T) {
	back := rows(1)
	forth := coloured(brush(64, 12, 0, at(0, 64, 40), at(61, 64, 255)), of(200, 100, 7, 90))
	reversed := forth
	reversed.Points = []api.StrokePoint{at(60, 64, 251), at(-1, 64, 36)}
	want, _ := painted(back, forth)
	other, _ := painted(back, reversed)
	if slices.Equal(want.Tiles, other.Tiles) {
		t.Fatal("the order makes no difference here")
	}
	expectPaint(t, back, forth, want, api.OK)
	expectPaint(t, back, reversed, other, api.OK)
}

// P14.4: a stroke that lies several times on the same place.
func TestPaintOverItself(t *testing.T) {
	for _, p := range []api.Pixel{of(9, 200, 30, 255), of(9, 200, 30, 128), of(9, 200, 30, 3), of(9, 200, 30, 1)} {
		for _, s := range []api.Stroke{
			brush(20, 3, 0, pressed(0, 0, 60, 10, -20, 30, 60, 10, 60, 10, 0, 0)...),
			brush(100, 30, 5, at(5, 5, 255), at(205, 5, 30), at(5, 5, 100)),
			brush(256, 200, 5, pressed(0, 0, 900, 10, 0, 0, 900, 10)...),
		} {
			expectPainted(t, rows(3), coloured(s, p))
			expectPainted(t, rows(3), erasing(coloured(s, p)))
			expectPainted(t, api.Raster{}, coloured(s, p))
		}
	}
}

// P14.4: transparent colours, and those that some coverages make transparent, leave nothing where nothing was.
func TestPaintWithTransparentColours(t *testing.T) {
	s := brush(100, 30, 0, pressed(0, 0, 900, 300)...)
	for _, p := range []api.Pixel{{}, of(255, 255, 255, 0), of(1, 2, 3, 0)} {
		expectPaint(t, api.Raster{}, coloured(s, p), api.Raster{}, api.OK)
		expectPaint(t, rows(40), coloured(s, p), rows(40), api.OK)
		expectPaint(t, scatteredRaster(3, 30), coloured(s, p), scatteredRaster(3, 30), api.OK)
	}
	// The product of 1 and 112 of 255 is rounded to 0, that of 1 and 128 to 1.
	faint := coloured(brush(1, 1, 0, at(8, 8, 255)), of(50, 60, 70, 1))
	expectPaint(t, api.Raster{}, faint, api.Raster{}, api.OK)
	for radius := 1; radius < 20; radius++ {
		faint.Radius = radius
		want := api.Raster{}
		if c := coverage(dab(8, 8, radius), 0, 0); c >= 128 {
			want, _ = painted(api.Raster{}, faint)
			if len(want.Tiles) == 0 {
				t.Fatal("the model paints nothing")
			}
		}
		expectPaint(t, api.Raster{}, faint, want, api.OK)
	}
}

// P14.4: a stroke that erases does not use its colour, and changes nothing where nothing is.
func TestErase(t *testing.T) {
	s := brush(100, 30, 0, at(0, 0, 255), at(900, 300, 100))
	for _, p := range []api.Pixel{{}, of(1, 2, 3, 0), of(1, 2, 3, 4), of(255, 255, 255, 255)} {
		want, _ := painted(rows(40), erasing(s))
		expectPaint(t, rows(40), erasing(coloured(s, p)), want, api.OK)
		expectPaint(t, api.Raster{}, erasing(coloured(s, p)), api.Raster{}, api.OK)
		elsewhere := rasterOf(solid(-500, 3, of(1, 2, 3, 4)), solid(8191, -8192, of(5, 6, 7, 8)))
		expectPaint(t, elsewhere, erasing(coloured(s, p)), elsewhere, api.OK)
	}
}

// P14.4: tiles that become transparent are no longer there, be they erased at once or little by little.
func TestErasedTiles(t *testing.T) {
	blue := of(0, 0, 255, 200)
	middle := erasing(brush(100, 1, 0, at(64, 64, 255)))
	expectPaint(t, rasterOf(solid(0, 0, blue)), middle, api.Raster{}, api.OK)
	expectPaint(t, rasterOf(solid(-2, 0, blue), solid(0, 0, blue), solid(0, 2, blue)), middle, rasterOf(solid(-2, 0, blue), solid(0, 2, blue)), api.OK)
	smaller := middle
	// The samples in the corners are 62 units away in both directions, which is farther than 87 units; the next ones are less than 85 units away.
	smaller.Radius = 86
	left := paint(t, rasterOf(solid(0, 0, blue)), smaller)
	if len(left.Tiles) != 1 || raster.Get(left, 4, 4) != (api.Pixel{}) || raster.Get(left, 0, 0) != of(0, 0, 255, 13) || raster.Get(left, 7, 7) != of(0, 0, 255, 13) {
		t.Errorf("after erasing all but the corners, these are left: %v", left)
	}
	// A quarter of the alpha is left each time.
	r := rasterOf(api.TileAt{Tile: api.Tile{of(9, 9, 9, 255)}})
	for _, alpha := range []uint8{64, 16, 4, 1} {
		faded := rasterOf(api.TileAt{Tile: api.Tile{of(9, 9, 9, alpha)}})
		expectPaint(t, r, erasing(dotted(1, blue, 191)), faded, api.OK)
		r = faded
	}
	expectPaint(t, r, erasing(dotted(1, blue, 191)), api.Raster{}, api.OK)
}

// P14.4: strokes that lie partly outside of the limits of coordinates.
func TestPaintAtLimits(t *testing.T) {
	for _, x := range []int{lowest, lowest + 15, lowest + 16, lowest + 200, 5, highest - 200, highest - 16, highest - 15, highest} {
		for _, y := range []int{lowest, lowest + 100, -3, highest - 100, highest} {
			for _, radius := range []int{1, 8, 256} {
				s := brush(radius, 1, 0, at(x, y, 255))
				expectPainted(t, api.Raster{}, s)
				got := paint(t, api.Raster{}, s)
				if !raster.Valid(got) || radius > 1 && len(got.Tiles) == 0 {
					t.Errorf("Paint of %v returns %v", s, got)
				}
				expectPainted(t, got, erasing(s))
			}
		}
	}
	corner := paint(t, api.Raster{}, brush(256, 1, 0, at(highest, highest, 255)))
	if len(corner.Tiles) != 4 || raster.Get(corner, 65535, 65535) != of(255, 0, 0, 255) || raster.Bounds(corner) != box(65520, 65520, 65536, 65536) {
		t.Errorf("in the corner, these are painted: %v", raster.Bounds(corner))
	}
}

// P14.4: strokes all of which lies outside of the limits are not valid, and change nothing.
func TestPaintOutside(t *testing.T) {
	for _, s := range []api.Stroke{
		brush(256, 1, 0, at(highest+1, 0, 255)), brush(256, 1, 0, at(0, lowest-1, 255)), brush(256, 1, 0, at(greatest, least, 255)), brush(16, 4096, 0, pressed(highest+100, 0, highest+5000, 0)...), brush(16, 4096, 0, pressed(0, 0, highest+5000, 0)...),
	} {
		expectPaint(t, rows(3), s, api.Raster{}, api.ErrArg)
		expectPaint(t, rows(3), erasing(s), api.Raster{}, api.ErrArg)
	}
}

// P14.4: strokes that are not valid, on rasters that are or are not.
func TestPaintOfInvalidStrokes(t *testing.T) {
	rasters := append(invalidRasters(), api.Raster{}, rows(1024))
	for i, s := range invalidStrokes() {
		expectPaint(t, rasters[i%len(rasters)], s, api.Raster{}, api.ErrArg)
	}
}

// P14.4: a raster that is not valid is treated as empty, also by strokes without dabs or without effect.
func TestPaintOnInvalidRasters(t *testing.T) {
	for _, r := range invalidRasters() {
		for _, s := range []api.Stroke{
			brush(50, 9, 0, pressed(0, 0, 100, 0)...), brush(16, 40, 10, pressed(5, 5, 5, 5)...), brush(16, 1, 0, at(5, 5, 0)), coloured(brush(16, 1, 0, at(5, 5, 255)), api.Pixel{}), erasing(brush(50, 9, 0, pressed(0, 0, 100, 0)...)),
		} {
			want, _ := painted(api.Raster{}, s)
			expectPaint(t, r, s, want, api.OK)
		}
	}
}

// P14.4: strokes without dabs, and with dabs that cover nothing.
func TestPaintOfNothing(t *testing.T) {
	for _, s := range []api.Stroke{
		brush(16, 40, 10, pressed(5, 5, 5, 5)...), brush(16, 40, 10, pressed(5, 5, 15, 5)...), brush(16, 1, 0, at(5, 5, 0)), brush(256, 1, 0, at(0, 0, 0), at(300, 0, 0)), brush(1, 1, 0, at(2, 2, 127)), brush(1, 1, 0, at(8, 8, 255)),
	} {
		for _, r := range []api.Raster{{}, rows(5), scatteredRaster(5, 20), rows(1024)} {
			expectPaint(t, r, s, r, api.OK)
			expectPaint(t, r, erasing(s), r, api.OK)
		}
	}
}

// P14.4: a raster of 1024 tiles, on which a tile is made or not.
func TestPaintOnFullRasters(t *testing.T) {
	full := rows(1024)
	inside, outside := brush(30, 9, 0, pressed(500, 500, 600, 700)...), brush(9, 1, 0, at(-8, 8, 255))
	want, _ := painted(full, inside)
	expectPaint(t, full, inside, want, api.OK)
	expectPaint(t, full, outside, api.Raster{}, api.ErrMany)
	expectPaint(t, full, coloured(outside, of(0, 0, 0, 1)), api.Raster{}, api.ErrMany)
	expectPaint(t, full, coloured(outside, of(9, 9, 9, 0)), full, api.OK)
	expectPaint(t, full, erasing(outside), full, api.OK)
	// With 16 of 255 samples, an alpha of 7 is rounded to 0, and one of 8 to 1.
	faint := brush(1, 1, 0, at(-14, 2, 255))
	expectPaint(t, full, coloured(faint, of(9, 9, 9, 7)), full, api.OK)
	expectPaint(t, full, coloured(faint, of(9, 9, 9, 8)), api.Raster{}, api.ErrMany)
	// One tile less leaves room for one, but not for two.
	almost := rows(1023)
	want, _ = painted(almost, outside)
	if len(want.Tiles) != 1024 {
		t.Fatalf("the model paints %d tiles", len(want.Tiles))
	}
	expectPaint(t, almost, outside, want, api.OK)
	expectPaint(t, almost, brush(9, 1, 0, at(-8, 0, 255)), api.Raster{}, api.ErrMany)
	expectPaint(t, almost, brush(9, 16*8, 0, pressed(-8, 8, -8, 8+16*8+1)...), api.Raster{}, api.ErrMany)
	// What is erased leaves room for a later stroke.
	erased := paint(t, full, erasing(brush(100, 1, 0, at(64, 64, 255))))
	if len(erased.Tiles) != 1023 {
		t.Errorf("after erasing a tile, %d are left", len(erased.Tiles))
	}
	expectPainted(t, erased, outside)
}

// P14.4: strokes that themselves make 1024 tiles, one less and one more.
func TestPaintOfManyTiles(t *testing.T) {
	for n := 1022; n <= 1024; n++ {
		s := coloured(brush(1, 128, 0, pressed(2, 2, 2+128*n-1, 2)...), of(1, 2, 3, 255))
		expectPainted(t, api.Raster{}, s)
		expectPainted(t, rows(1), s)
		elsewhere := rasterOf(solid(-1, 0, of(1, 2, 3, 4)))
		expectPainted(t, elsewhere, s)
		_, err := stroke.Paint(elsewhere, s)
		if want := map[bool]api.Errno{false: api.OK, true: api.ErrMany}[n == 1024]; err != want {
			t.Errorf("with %d tiles beside one, the error is %d, not %d", n, err, want)
		}
		expectPaint(t, elsewhere, erasing(s), elsewhere, api.OK)
		expectPaint(t, elsewhere, coloured(s, of(1, 2, 3, 0)), elsewhere, api.OK)
	}
	wide := brush(256, 1000, 0, pressed(lowest, 0, lowest+1000*1023, 0)...)
	expectPaint(t, api.Raster{}, wide, api.Raster{}, api.ErrMany)
	expectPaint(t, rows(1024), wide, api.Raster{}, api.ErrMany)
	expectPaint(t, rows(3), coloured(wide, api.Pixel{}), rows(3), api.OK)
}
