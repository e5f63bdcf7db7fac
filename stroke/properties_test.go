package stroke_test

import (
	"slices"
	"testing"

	"gouache/api"
	"gouache/raster"
	"gouache/stroke"
)

// P14.8: painting changes no pixel outside of Area, and every pixel that a dab covers lies in it.
func TestPaintStaysInArea(t *testing.T) {
	for seed := range 150 {
		s := scatteredStroke(seed)
		back := scatteredRaster(seed, 40)
		painted := paint(t, back, s)
		area := stroke.Area(s)
		for _, tile := range slices.Concat(back.Tiles, painted.Tiles) {
			for i := range 64 {
				x, y := 8*tile.Pos.X+i%8, 8*tile.Pos.Y+i/8
				isOutside := x < area.X0 || x >= area.X1 || y < area.Y0 || y >= area.Y1
				if isOutside && raster.Get(back, x, y) != raster.Get(painted, x, y) {
					t.Fatalf("%v changes (%d, %d), which is not in %v", s, x, y, area)
				}
			}
		}
		for _, d := range stroke.Dabs(s) {
			for y := d.Y>>4 - 18; y <= d.Y>>4+18; y += 3 {
				for x := d.X>>4 - 18; x <= d.X>>4+18; x++ {
					isOutside := x < area.X0 || x >= area.X1 || y < area.Y0 || y >= area.Y1
					if isOutside && stroke.Cover(d, x, y) != 0 {
						t.Fatalf("%v covers (%d, %d), which is not in %v", d, x, y, area)
					}
				}
			}
		}
	}
}

// P14.4: results are valid rasters, and a stroke that paints never takes alpha away, as one that erases never adds any.
func TestPaintAddsAlpha(t *testing.T) {
	for seed := range 60 {
		s := scatteredStroke(seed)
		back := scatteredRaster(seed, 20)
		after := paint(t, back, s)
		if !raster.Valid(after) {
			t.Fatalf("%v paints a raster that is not valid", s)
		}
		more, less := back, after
		if !s.Erase {
			more, less = after, back
		}
		for _, tile := range slices.Concat(more.Tiles, less.Tiles) {
			a, b := raster.Tile(more, tile.Pos), raster.Tile(less, tile.Pos)
			for i := range a {
				if a[i].A < b[i].A {
					t.Fatalf("%v makes %v of %v in the tile at %v", s, a[i], b[i], tile.Pos)
				}
			}
		}
	}
}

// R1: slices that are nil, and empty ones.
func TestEmptySlices(t *testing.T) {
	s := api.Stroke{Points: []api.StrokePoint{}, Radius: 1, Spacing: 1}
	expectInvalid(t, s)
	expectShift(t, s, 1, 2, api.Stroke{Radius: 1, Spacing: 1})
	expectShift(t, api.Stroke{}, 1, 2, api.Stroke{})
	dot := dotted(1, of(1, 2, 3, 4), 255)
	want, _ := painted(api.Raster{}, dot)
	expectPaint(t, api.Raster{Tiles: []api.TileAt{}}, dot, want, api.OK)
}

// P1: strokes, rasters and strings much larger than the limits.
func TestLargeArguments(t *testing.T) {
	s := brush(16, 40, 10, make([]api.StrokePoint, 1<<20)...)
	if stroke.Valid(s) || stroke.Bytes(s) != "" || stroke.Dabs(s) != nil || stroke.Area(s) != (api.Rect{}) {
		t.Error("a stroke of 2^20 points is accepted")
	}
	expectPaint(t, rows(1), s, api.Raster{}, api.ErrArg)
	if got := stroke.Shift(s, 3, 4); len(got.Points) != len(s.Points) || got.Points[1<<20-1] != at(48, 64, 0) {
		t.Error("a stroke of 2^20 points is not shifted")
	}
	dot := dotted(1, of(1, 2, 3, 4), 255)
	want, _ := painted(api.Raster{}, dot)
	expectPaint(t, rows(20000), dot, want, api.OK)
	expectRead(t, string(make([]byte, 1<<22)))
}

// P1, R2, R4, R5: all calls with arbitrary strokes, dabs, rasters, numbers and strings.
func FuzzStrokeFollowsItsRules(f *testing.F) {
	f.Add([]byte{}, 0, 0, 0, 0, 0, 0, uint32(0), false, "")
	f.Add([]byte{0, 0, 255, 10, 3, 100, 5, 200, 0}, 1, 0, 16, 4, 3, 1, uint32(0xff0000ff), false, "\x01\x0f\xff\xff\x10\x00\x02\x03\x01\x00\x00\x01\x01\x02\x03\x04\x01\x01\x11\x70")
	f.Add([]byte{1, 1, 1, 255, 255, 255, 128, 128, 128}, 65535, 0, 256, 4096, 100, 2, uint32(0x01020304), true, "\x00")
	f.Add([]byte{1, 1, 1}, 1<<40, 7, 256, 1, 1048575, 0, uint32(1), true, "\x02")
	f.Fuzz(func(t *testing.T, steps []byte, scale, x, radius, spacing, phase, index int, colour uint32, erase bool, encoded string) {
		s := coloured(brush(radius, spacing, phase), of(uint8(colour>>24), uint8(colour>>16), uint8(colour>>8), uint8(colour)))
		s.Erase = erase
		for step := range slices.Chunk(steps[:min(len(steps), 210)], 3) {
			if len(step) == 3 {
				s.Points = append(s.Points, at(x+scale*(int(step[0])-128), scale*(int(step[1])-128), int(step[2])))
			}
		}
		if isValid(s) {
			expectValid(t, s)
		} else {
			expectInvalid(t, s)
		}
		a, b, err := halves(s, index)
		expectSplit(t, s, index, a, b, err)
		expectShift(t, s, x, scale, shifted(s, x, scale))
		for _, r := range []api.Raster{{}, rows(3), {Tiles: []api.TileAt{solid(x, scale, s.Colour)}}} {
			expectPainted(t, r, s)
		}
		d := dab(x, scale, radius)
		expectCover(t, d, spacing, phase, coverage(d, spacing, phase))
		expectCover(t, d, x>>4, scale>>4, coverage(d, x>>4, scale>>4))
		expectRead(t, encoded)
	})
}
