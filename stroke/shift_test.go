package stroke_test

import (
	"testing"

	"gouache/api"
	"gouache/stroke"
)

// expectShift reports another result of Shift, and a stroke that is not as it was or that shares memory with the result.
func expectShift(t *testing.T, s api.Stroke, x, y int, want api.Stroke) {
	t.Helper()
	before := copyOf(s)
	for range 2 {
		got := stroke.Shift(s, x, y)
		if !isSame(got, want) {
			t.Fatalf("Shift of %v by (%d, %d) returns %v, not %v", s, x, y, got, want)
		}
		overwrite(got.Points)
	}
	if !isSame(s, before) {
		t.Fatalf("Shift changes %v, or shares memory with it", before)
	}
}

// shifted returns what Shift returns, as P14.6 says it.
func shifted(s api.Stroke, x, y int) api.Stroke {
	s = copyOf(s)
	for i, p := range s.Points {
		s.Points[i] = at(p.X+x*16, p.Y+y*16, p.Pressure)
	}
	return s
}

// P14.6: positive and negative numbers, and all fields but the coordinates.
func TestShift(t *testing.T) {
	s := erasing(coloured(brush(7, 9, 11, at(1, 2, 3), at(-40, 50, 60), at(0, 0, 255)), of(1, 2, 3, 4)))
	want := s
	want.Points = []api.StrokePoint{at(33, -14, 3), at(-8, 34, 60), at(32, -16, 255)}
	expectShift(t, s, 2, -1, want)
	expectShift(t, want, -2, 1, s)
	expectShift(t, s, 0, 0, s)
	want.Points = []api.StrokePoint{at(1, 1602, 3), at(-40, 1650, 60), at(0, 1600, 255)}
	expectShift(t, s, 0, 100, want)
	want.Points = []api.StrokePoint{at(-1048575, 2, 3), at(-1048616, 50, 60), at(-1048576, 0, 255)}
	expectShift(t, s, -65536, 0, want)
}

// P14.6, R5: large numbers, where products and sums wrap around.
func TestShiftWrapsAround(t *testing.T) {
	s := brush(1, 1, 0, at(0, 0, 255), at(greatest, least, 0), at(5, -5, 9))
	// 16 * 2^60 is 0, and 16 * 2^59 is the least integer.
	expectShift(t, s, 1<<60, 1<<59, brush(1, 1, 0, at(0, least, 255), at(greatest, 0, 0), at(5, greatest-4, 9)))
	expectShift(t, s, 1, -1, brush(1, 1, 0, at(16, -16, 255), at(least+15, greatest-15, 0), at(21, -21, 9)))
	expectShift(t, s, greatest, 0, brush(1, 1, 0, at(-16, 0, 255), at(greatest-16, least, 0), at(-11, -5, 9)))
}

// P14.6: strokes that are valid and others, all of which are shifted.
func TestShiftOfManyStrokes(t *testing.T) {
	strokes := append(validStrokes(), invalidStrokes()...)
	for _, s := range strokes {
		for _, by := range []api.Point{{}, {X: 1}, {Y: -1}, {X: -70000, Y: 70000}, {X: greatest, Y: least}, {X: 1 << 60, Y: -1 << 59}, {X: least, Y: greatest}} {
			expectShift(t, s, by.X, by.Y, shifted(s, by.X, by.Y))
		}
	}
}

// P14.8: shifting by whole pixels shifts the dabs and their coverage, the area, and what is painted.
func TestShiftShiftsDabs(t *testing.T) {
	for seed := range 150 {
		next := scatter(seed)
		s, x, y := scatteredStroke(seed), next(101)-50, next(101)-50
		moved := stroke.Shift(s, x, y)
		var want []api.Dab
		for _, d := range stroke.Dabs(s) {
			want = append(want, dab(d.X+16*x, d.Y+16*y, d.Radius))
		}
		expectDabs(t, moved, want...)
		for i, d := range want {
			for range 5 {
				px, py := d.X>>4+next(21)-10, d.Y>>4+next(21)-10
				expectCover(t, d, px, py, stroke.Cover(stroke.Dabs(s)[i], px-x, py-y))
			}
		}
		if a := stroke.Area(s); a != (api.Rect{}) && stroke.Area(moved) != box(a.X0+x, a.Y0+y, a.X1+x, a.Y1+y) {
			t.Errorf("Area of %v is %v, and %v if it is shifted by (%d, %d)", s, a, stroke.Area(moved), x, y)
		}
	}
}

// P14.8: a stroke shifted by whole tiles paints the same tiles elsewhere.
func TestShiftShiftsTiles(t *testing.T) {
	for seed := range 40 {
		next := scatter(seed)
		s, x, y := scatteredStroke(seed), next(9)-4, next(9)-4
		s.Erase = false
		want, err := stroke.Paint(api.Raster{}, s)
		for i := range want.Tiles {
			want.Tiles[i].Pos.X += x
			want.Tiles[i].Pos.Y += y
		}
		expectPaint(t, api.Raster{}, stroke.Shift(s, 8*x, 8*y), want, err)
	}
}
