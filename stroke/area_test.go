package stroke_test

import (
	"testing"

	"gouache/api"
	"gouache/stroke"
)

// P14.5: the squares of dabs, by their sides.
func TestArea(t *testing.T) {
	for _, x := range []struct {
		s    api.Stroke
		want api.Rect
	}{
		{brush(8, 1, 0, at(8, 8, 255)), box(0, 0, 2, 2)},
		{brush(7, 1, 0, at(8, 8, 255)), box(0, 0, 1, 1)},
		{brush(9, 1, 0, at(8, 8, 255)), box(-1, -1, 2, 2)},
		{brush(1, 1, 0, at(0, 0, 255)), box(-1, -1, 1, 1)},
		{brush(1, 1, 0, at(16, -16, 255)), box(0, -2, 2, 0)},
		{brush(256, 1, 0, at(0, 0, 255)), box(-16, -16, 17, 17)},
		{brush(256, 1, 0, at(-1, 15, 255)), box(-17, -16, 16, 17)},
		{brush(16, 40, 10, pressed(0, 0, 100, 0)...), box(-1, -1, 7, 2)},
		{brush(1, 16, 0, at(5, 5, 255), at(5, 65, 0)), box(0, 0, 1, 2)},
		{brush(16, 40, 10, pressed(0, 0, 100, 0, 100, 30)...), box(-1, -1, 7, 2)},
		{brush(10, 1000, 0, pressed(-500, 300, 700, -400)...), box(-32, -14, 24, 20)},
	} {
		if got := stroke.Area(x.s); got != x.want {
			t.Errorf("Area of %v is %v, not %v", x.s, got, x.want)
		}
	}
}

// P14.5: dabs of radius 0 have no square, alone or beside others.
func TestAreaOfEmptyDabs(t *testing.T) {
	for _, s := range []api.Stroke{
		brush(16, 1, 0, at(5, 5, 0)), brush(256, 1, 0, at(0, 0, 0), at(300, 0, 0)), brush(1, 1, 0, at(500, 500, 127)), brush(16, 40, 10, pressed(5, 5, 5, 5)...), brush(16, 40, 10, pressed(5, 5, 15, 5)...), brush(1, 1, 0, at(highest, lowest, 0)),
	} {
		if got := stroke.Area(s); got != (api.Rect{}) {
			t.Errorf("Area of %v is %v", s, got)
		}
	}
	s := brush(20, 100, 0, at(0, 0, 0), at(100, 0, 0), at(200, 0, 255), at(300, 0, 0), at(400, 0, 0), at(500, 0, 0))
	if got := stroke.Area(s); got != box(11, -2, 14, 2) {
		t.Errorf("Area of %v is %v", s, got)
	}
}

// P14.5: the limits of coordinates.
func TestAreaAtLimits(t *testing.T) {
	for _, x := range []struct {
		s    api.Stroke
		want api.Rect
	}{
		{brush(256, 1, 0, at(lowest, lowest, 255)), box(-65536, -65536, -65519, -65519)},
		{brush(256, 1, 0, at(highest, highest, 255)), box(65519, 65519, 65536, 65536)},
		{brush(1, 1, 0, at(highest, lowest, 255)), box(65535, -65536, 65536, -65535)},
		{brush(15, 1, 0, at(lowest+15, highest-15, 255)), box(-65536, 65534, -65534, 65536)},
		{brush(16, 1, 0, at(lowest+15, highest-15, 255)), box(-65536, 65534, -65534, 65536)},
		{brush(17, 4096, 0, pressed(lowest, lowest, highest, highest)...), box(-65536, -65536, 65524, 65524)},
	} {
		if got := stroke.Area(x.s); got != x.want || got != area(x.s) {
			t.Errorf("Area of %v is %v, not %v, or %v", x.s, got, x.want, area(x.s))
		}
	}
}

// P14.5: many strokes, and strokes that are not valid.
func TestAreaOfManyStrokes(t *testing.T) {
	strokes := append(validStrokes(), invalidStrokes()...)
	for seed := range 2000 {
		strokes = append(strokes, scatteredStroke(seed))
	}
	for _, s := range strokes {
		before := copyOf(s)
		if got := stroke.Area(s); got != area(s) || !isSame(s, before) {
			t.Errorf("Area of %v is %v, not %v, or the stroke changes", before, got, area(before))
		}
	}
}
