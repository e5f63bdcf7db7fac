package stroke_test

import (
	"testing"

	"gouache/api"
)

// P14.2: the examples of the chapter.
func TestDabs(t *testing.T) {
	expectDabs(t, brush(16, 40, 10, pressed(0, 0, 100, 0)...), dab(10, 0, 16), dab(50, 0, 16), dab(90, 0, 16))
	expectDabs(t, brush(16, 40, 10, pressed(0, 0, 100, 0, 100, 30)...), dab(10, 0, 16), dab(50, 0, 16), dab(90, 0, 16))
	expectDabs(t, brush(8, 1, 0, at(8, 8, 255)), dab(8, 8, 8))
}

// P14.2: a stroke with one point has one dab there, whatever its phase and spacing.
func TestDabsOfOnePoint(t *testing.T) {
	for _, spacing := range []int{1, 7, 4096} {
		for _, phase := range []int{0, 1, 6, 4096, 1048575} {
			expectDabs(t, brush(256, spacing, phase, at(-3, 4, 255)), dab(-3, 4, 256))
			expectDabs(t, brush(256, spacing, phase, at(lowest, highest, 100)), dab(lowest, highest, 100))
			expectDabs(t, brush(256, spacing, phase, at(highest, lowest, 0)), dab(highest, lowest, 0))
		}
	}
}

// P14.2: the radius is rounded to the nearest integer.
func TestRadiusOfDabs(t *testing.T) {
	for _, x := range []struct{ radius, pressure, want int }{
		{1, 0, 0}, {1, 127, 0}, {1, 128, 1}, {1, 255, 1}, {2, 63, 0}, {2, 64, 1}, {2, 191, 1}, {2, 192, 2},
		{100, 1, 0}, {100, 2, 1}, {255, 1, 1}, {255, 77, 77}, {256, 1, 1}, {256, 127, 127}, {256, 128, 129}, {256, 254, 255}, {256, 255, 256}, {16, 128, 8}, {17, 128, 9},
	} {
		expectDabs(t, brush(x.radius, 1, 0, at(1, 2, x.pressure)), dab(1, 2, x.want))
		expectDabs(t, brush(x.radius, 1, 0, at(1, 2, x.pressure), at(1, 3, x.pressure)), dab(1, 2, x.want))
	}
}

// P14.2: pressures rise, fall and stay; their differences are rounded before the radius is.
func TestPressureOfDabs(t *testing.T) {
	expectDabs(t, brush(100, 20, 0, at(0, 0, 0), at(-30, 40, 255)), dab(0, 0, 0), dab(-12, 16, 40), dab(-24, 32, 80))
	expectDabs(t, brush(255, 2, 0, at(0, 0, 200), at(8, 0, 100)), dab(0, 0, 200), dab(2, 0, 175), dab(4, 0, 150), dab(6, 0, 125))
	expectDabs(t, brush(255, 3, 1, at(0, 0, 77), at(8, 0, 77)), dab(1, 0, 77), dab(4, 0, 77), dab(7, 0, 77))
	// Halves of differences are rounded upwards, be these positive or negative.
	expectDabs(t, brush(255, 1, 0, at(0, 0, 10), at(2, 0, 13)), dab(0, 0, 10), dab(1, 0, 12))
	expectDabs(t, brush(255, 1, 0, at(0, 0, 13), at(2, 0, 10)), dab(0, 0, 13), dab(1, 0, 12))
	expectDabs(t, brush(255, 1, 0, at(0, 0, 1), at(2, 0, 0)), dab(0, 0, 1), dab(1, 0, 1))
	// A pressure of 1.6 would make a radius of 0.40, but one of 2 makes 0.502.
	expectDabs(t, brush(64, 3, 0, at(0, 0, 1), at(5, 0, 2)), dab(0, 0, 0), dab(3, 0, 1))
	// Each segment begins with the pressure of its own first point.
	expectDabs(t, brush(255, 5, 0, at(0, 0, 0), at(10, 0, 100), at(0, 0, 200), at(0, 10, 0)), dab(0, 0, 0), dab(5, 0, 50), dab(10, 0, 100), dab(5, 0, 150), dab(0, 0, 200), dab(0, 5, 100))
}

// P14.2: lengths are rounded down, and coordinates to the nearest integer, halves upwards.
func TestDabsBetweenIntegers(t *testing.T) {
	for _, x := range []struct {
		x, y int
		want []api.Dab
	}{
		{1, 1, []api.Dab{dab(0, 0, 1)}},
		{-1, -1, []api.Dab{dab(0, 0, 1)}},
		{1, 2, []api.Dab{dab(0, 0, 1), dab(1, 1, 1)}},
		{-1, 2, []api.Dab{dab(0, 0, 1), dab(0, 1, 1)}},
		{-1, -2, []api.Dab{dab(0, 0, 1), dab(0, -1, 1)}},
		{2, -1, []api.Dab{dab(0, 0, 1), dab(1, 0, 1)}},
		{-2, 1, []api.Dab{dab(0, 0, 1), dab(-1, 1, 1)}},
		{-2, -1, []api.Dab{dab(0, 0, 1), dab(-1, 0, 1)}},
		{2, 2, []api.Dab{dab(0, 0, 1), dab(1, 1, 1)}},
		{3, 2, []api.Dab{dab(0, 0, 1), dab(1, 1, 1), dab(2, 1, 1)}},
		{-3, -2, []api.Dab{dab(0, 0, 1), dab(-1, -1, 1), dab(-2, -1, 1)}},
		{2, 3, []api.Dab{dab(0, 0, 1), dab(1, 1, 1), dab(1, 2, 1)}},
		// The square root of 32 is 5.66; the last dab is farther from the end than a unit.
		{4, 4, []api.Dab{dab(0, 0, 1), dab(1, 1, 1), dab(2, 2, 1), dab(2, 2, 1), dab(3, 3, 1)}},
		{-4, -4, []api.Dab{dab(0, 0, 1), dab(-1, -1, 1), dab(-2, -2, 1), dab(-2, -2, 1), dab(-3, -3, 1)}},
		// The square root of 24 is 4.90, that of 26 is 5.10.
		{0, 5, []api.Dab{dab(0, 0, 1), dab(0, 1, 1), dab(0, 2, 1), dab(0, 3, 1), dab(0, 4, 1)}},
		{5, 1, []api.Dab{dab(0, 0, 1), dab(1, 0, 1), dab(2, 0, 1), dab(3, 1, 1), dab(4, 1, 1)}},
		{4, -2, []api.Dab{dab(0, 0, 1), dab(1, 0, 1), dab(2, -1, 1), dab(3, -1, 1)}},
	} {
		expectDabs(t, brush(1, 1, 0, pressed(0, 0, x.x, x.y)...), x.want...)
	}
}

// P14.2: segments in every direction, also from a point that is not the origin.
func TestDabsInEveryDirection(t *testing.T) {
	for y := -9; y <= 9; y++ {
		for x := -9; x <= 9; x++ {
			for phase := range 3 {
				s := brush(255, 1+phase, phase, at(0, 0, 10+x), at(x, y, 20+y))
				expectDabs(t, s, dabsOf(s)...)
				s = brush(255, 2, phase, at(-3, 5, 10+x), at(x, y, 20+y), at(4, -8, 0))
				expectDabs(t, s, dabsOf(s)...)
			}
		}
	}
}

// P14.2: a dab is less far along the stroke than its end, and a dab at the end of a segment is the first one on the next segment.
func TestDabsAtEnds(t *testing.T) {
	expectDabs(t, brush(1, 10, 0, pressed(0, 0, 10, 0)...), dab(0, 0, 1))
	expectDabs(t, brush(1, 10, 0, pressed(0, 0, 11, 0)...), dab(0, 0, 1), dab(10, 0, 1))
	expectDabs(t, brush(1, 10, 0, pressed(0, 0, 30, 0)...), dab(0, 0, 1), dab(10, 0, 1), dab(20, 0, 1))
	expectDabs(t, brush(255, 10, 0, at(0, 0, 0), at(10, 0, 100), at(10, 10, 50)), dab(0, 0, 0), dab(10, 0, 100))
	expectDabs(t, brush(255, 10, 0, at(0, 0, 0), at(10, 0, 100), at(10, 11, 45)), dab(0, 0, 0), dab(10, 0, 100), dab(10, 10, 50))
	// The end of a segment of length 5 is 5.66 away from its beginning; the next segment begins at its true end.
	expectDabs(t, brush(1, 5, 0, pressed(0, 0, 4, 4, 4, 10)...), dab(0, 0, 1), dab(4, 4, 1), dab(4, 9, 1))
	expectDabs(t, brush(1, 4, 0, pressed(0, 0, 4, 4, 4, 10)...), dab(0, 0, 1), dab(3, 3, 1), dab(4, 7, 1))
}

// P14.2: segments of length 0, at the beginning, in the middle and at the end.
func TestDabsOfEmptySegments(t *testing.T) {
	expectDabs(t, brush(255, 5, 0, at(0, 0, 9), at(0, 0, 100), at(10, 0, 200)), dab(0, 0, 100), dab(5, 0, 150))
	expectDabs(t, brush(255, 5, 0, at(0, 0, 9), at(0, 0, 8), at(0, 0, 100), at(10, 0, 200)), dab(0, 0, 100), dab(5, 0, 150))
	expectDabs(t, brush(255, 5, 0, at(0, 0, 100), at(10, 0, 200), at(10, 0, 20), at(10, 0, 60), at(10, 10, 80)), dab(0, 0, 100), dab(5, 0, 150), dab(10, 0, 60), dab(10, 5, 70))
	expectDabs(t, brush(255, 5, 0, at(0, 0, 100), at(10, 0, 200), at(10, 0, 20)), dab(0, 0, 100), dab(5, 0, 150))
	expectDabs(t, brush(255, 5, 10, at(0, 0, 100), at(10, 0, 200), at(10, 0, 20), at(10, 0, 9)))
	for n := 2; n <= 64; n++ {
		points := make([]api.StrokePoint, n)
		for i := range points {
			points[i] = at(-5, 7, i)
		}
		for _, phase := range []int{0, 1, 1048575} {
			expectDabs(t, brush(255, 1, phase, points...))
		}
	}
}

// P14.2: a phase just below, at and above the length of the stroke and of each segment.
func TestDabsByPhase(t *testing.T) {
	points := pressed(0, 0, 10, 0, 10, 7, 10, 7, 40, 7)
	for _, x := range []struct {
		phase int
		want  []api.Dab
	}{
		{9, []api.Dab{dab(9, 0, 1), dab(32, 7, 1)}},
		{10, []api.Dab{dab(10, 0, 1), dab(33, 7, 1)}},
		{11, []api.Dab{dab(10, 1, 1), dab(34, 7, 1)}},
		{16, []api.Dab{dab(10, 6, 1), dab(39, 7, 1)}},
		{17, []api.Dab{dab(10, 7, 1)}},
		{18, []api.Dab{dab(11, 7, 1)}},
		{46, []api.Dab{dab(39, 7, 1)}},
		{47, nil}, {48, nil}, {1048575, nil},
	} {
		expectDabs(t, brush(1, 30, x.phase, points...), x.want...)
	}
	for phase := range 60 {
		for spacing := 1; spacing < 60; spacing++ {
			s := brush(200, spacing, phase, at(0, 0, 3), at(10, 0, 200), at(7, 7, 90), at(7, 7, 20), at(-20, 3, 255))
			expectDabs(t, s, dabsOf(s)...)
		}
	}
}

// P14.2: lengths up to the greatest one; the squares of these are just above or below that of the distance.
func TestDabsOfLongSegments(t *testing.T) {
	for _, x := range []struct {
		points []api.StrokePoint
		length int
	}{
		// 2 * 2097151^2 is between 2965819^2 and 2965820^2.
		{pressed(lowest, lowest, highest, highest), 2965819},
		{pressed(highest, lowest, lowest, highest), 2965819},
		{pressed(lowest, 0, highest, 0), 2097151},
		{pressed(lowest, 5, highest, 6), 2097151},
		{pressed(0, 0, 1000, 44), 1000}, // 1001^2 = 1000^2 + 2001, and 44^2 = 1936
		{pressed(0, 0, 1000, 45), 1001}, // 45^2 = 2025
		{pressed(0, 0, -300, 400), 500},
		{pressed(0, 0, -300, 399), 499},
		{pressed(0, 0, 300, -401), 500},
	} {
		// One dab lies just before the end, or at it, where it is none.
		step := min(x.length-1, 4096)
		phase := (x.length - 1) % step
		for k := range 2 {
			s := brush(1, step, phase+k, x.points...)
			got := dabsOf(s)
			if count := (x.length-1)/step + 1 - k; len(got) != count {
				t.Fatalf("the model of %v has %d dabs, not %d", s, len(got), count)
			}
			expectDabs(t, s, got...)
		}
	}
}

// P14.2: many strokes.
func TestDabsOfManyStrokes(t *testing.T) {
	for _, s := range validStrokes() {
		expectDabs(t, s, dabsOf(s)...)
	}
	for seed := range 2000 {
		s := scatteredStroke(seed)
		expectDabs(t, s, dabsOf(s)...)
	}
}

// P14.2: an invalid stroke has no dabs.
func TestDabsOfInvalidStrokes(t *testing.T) {
	for _, s := range invalidStrokes() {
		expectDabs(t, s)
	}
}
