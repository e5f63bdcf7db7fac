package stroke_test

import (
	"slices"
	"testing"

	"gouache/api"
	"gouache/stroke"
)

// P14.1: the number of points.
func TestValidPoints(t *testing.T) {
	expectInvalid(t, brush(16, 40, 10))
	expectInvalid(t, api.Stroke{Points: []api.StrokePoint{}, Radius: 16, Spacing: 40})
	for n := 1; n < 100; n++ {
		for _, s := range []api.Stroke{brush(16, 40, 10, winding(n)...), brush(16, 40, 10, slices.Repeat(pressed(3, 4), n)...)} {
			if n > 64 {
				expectInvalid(t, s)
			} else {
				expectValid(t, s)
			}
		}
	}
	expectInvalid(t, brush(16, 40, 10, make([]api.StrokePoint, 100000)...))
}

// P14.1: each field at its limits and beyond them, also at the limits of integers and where it would be valid in 32 bits.
func TestValidFields(t *testing.T) {
	for n, limits := range fieldLimits() {
		low, high := limits[0], limits[1]
		for _, s := range far() {
			for _, valid := range withFields(s, n, low, low+1, (low+high)/2, high-1, high) {
				expectValid(t, valid)
			}
			for _, invalid := range withFields(s, n, low-1, high+1, low-1000, high+1000, least, least+1, greatest, greatest-1, 1<<32+low, 1<<32+high, 1<<63-1<<32+low) {
				expectInvalid(t, invalid)
			}
		}
	}
}

// P14.1: all fields of a point at its limits at once, and one of them beyond.
func TestValidCorners(t *testing.T) {
	for _, x := range []int{lowest - 1, lowest, highest, highest + 1} {
		for _, y := range []int{lowest - 1, lowest, highest, highest + 1} {
			for _, pressure := range []int{-1, 0, 255, 256} {
				s := brush(256, 4096, 0, at(x, y, pressure), at(0, 0, 9), at(x, y, pressure))
				if x >= lowest && x <= highest && y >= lowest && y <= highest && pressure >= 0 && pressure <= 255 {
					expectValid(t, s)
				} else {
					expectInvalid(t, s)
				}
			}
		}
	}
}

// P14.1: every point of a long stroke counts.
func TestValidEachPoint(t *testing.T) {
	for _, n := range []int{1, 2, 3, 64} {
		for i := range n {
			for number, limits := range fieldLimits()[:3] {
				for _, v := range []int{limits[0] - 1, limits[1] + 1} {
					s := brush(16, 4096, 0, winding(n)...)
					*field(&s, number, i) = v
					if stroke.Valid(s) {
						t.Errorf("%v is valid", s)
					}
				}
			}
		}
	}
}

// P14.1: any colour is valid, and a stroke that paints as well as one that erases.
func TestValidColours(t *testing.T) {
	for _, p := range []api.Pixel{{}, of(255, 255, 255, 255), of(1, 2, 3, 0), of(0, 0, 0, 1)} {
		for _, s := range far() {
			expectValid(t, coloured(s, p))
			expectValid(t, erasing(coloured(s, p)))
		}
	}
}

// dabCount is a stroke and its number of dabs.
type dabCount struct {
	s     api.Stroke
	count int
}

// P14.1: strokes of exactly 1024 dabs, and of one more.
func TestValidDabs(t *testing.T) {
	zigzag := make([]api.StrokePoint, 64)
	for i := range zigzag {
		zigzag[i] = at(130*(i%2), 7, 255)
	}
	for _, x := range []dabCount{
		{brush(1, 1, 0, pressed(0, 0, 1023, 0)...), 1023},
		{brush(1, 1, 0, pressed(0, 0, 1024, 0)...), 1024},
		{brush(1, 1, 0, pressed(0, 0, 1025, 0)...), 1025},
		{brush(1, 1, 0, pressed(0, 0, 0, -1024)...), 1024},
		{brush(1, 1, 0, pressed(0, 0, 0, -1025)...), 1025},
		{brush(1, 1, 1, pressed(0, 0, 1025, 0)...), 1024},
		{brush(1, 1, 1, pressed(0, 0, 1026, 0)...), 1025},
		{brush(1, 1, 5000, pressed(0, 0, -6024, 0)...), 1024},
		{brush(1, 1, 5000, pressed(0, 0, -6025, 0)...), 1025},
		{brush(1, 40, 0, pressed(0, 0, 40*1023, 0)...), 1023},
		{brush(1, 40, 0, pressed(0, 0, 40*1023+1, 0)...), 1024},
		{brush(1, 40, 0, pressed(0, 0, 40*1024, 0)...), 1024},
		{brush(1, 40, 0, pressed(0, 0, 40*1024+1, 0)...), 1025},
		{brush(1, 40, 39, pressed(0, 0, 40*1024+39, 0)...), 1024},
		{brush(1, 40, 39, pressed(0, 0, 40*1024+40, 0)...), 1025},
		{brush(1, 1, 0, pressed(0, 0, 500, 0, 500, 0, 500, 524)...), 1024},
		{brush(1, 1, 0, pressed(0, 0, 500, 0, 500, 0, 500, 525)...), 1025},
		{brush(1, 8, 0, zigzag...), 1024},
		{brush(1, 8, 6, zigzag...), 1023},
		{brush(1, 7, 1023, zigzag...), 1024},
		{brush(1, 7, 1022, zigzag...), 1024},
		{brush(1, 7, 1021, zigzag...), 1025},
		// The square root of 2 * 724^2 is 1023.89, and that of 2 * 725^2 is 1025.30.
		{brush(1, 1, 0, pressed(0, 0, 724, 724)...), 1023},
		{brush(1, 1, 0, pressed(0, 0, 725, 724)...), 1024},
		{brush(1, 1, 0, pressed(0, 0, 725, 725)...), 1025},
		// Each segment is rounded down by itself: the square root of 2 is 1.
		{brush(1, 1, 0, pressed(0, 0, 1023, 0, 1024, 1)...), 1024},
		{brush(1, 1, 0, pressed(0, 0, 1023, 0, 1024, 1, 1025, 2)...), 1025},
		{brush(256, 4096, 0, pressed(lowest, 0, highest, 0, lowest, 0)...), 1024},
		{brush(256, 4096, 0, pressed(lowest, 0, highest, 0, lowest, 0, lowest, 1)...), 1024},
		{brush(256, 4096, 0, pressed(lowest, 0, highest, 0, lowest, 0, lowest, 2)...), 1024},
		{brush(256, 4096, 0, pressed(lowest, 0, highest, 0, lowest, 0, lowest, 3)...), 1025},
	} {
		if got := len(distances(x.s)); got != x.count {
			t.Fatalf("%v has %d dabs, not %d", x.s, got, x.count)
		}
		if x.count > 1024 {
			expectInvalid(t, x.s)
		} else {
			expectValid(t, x.s)
		}
	}
}

// P14.1, P1: strokes that would have very many dabs.
func TestValidLongStrokes(t *testing.T) {
	zigzag := make([]api.StrokePoint, 64)
	for i := range zigzag {
		zigzag[i] = at(lowest+i%2*(highest-lowest), lowest+i%2*(highest-lowest), i)
	}
	for _, spacing := range []int{1, 2, 100, 4096} {
		for _, phase := range []int{0, 1048575} {
			expectInvalid(t, brush(256, spacing, phase, zigzag...))
			expectInvalid(t, brush(256, spacing, phase, zigzag[:4]...))
		}
	}
	// Only the phase leaves few enough.
	expectValid(t, brush(256, 1, 1048575, pressed(0, 0, highest, 0, highest, 1024)...))
	expectInvalid(t, brush(256, 1, 1048575, pressed(0, 0, highest, 0, highest, 1025)...))
	expectInvalid(t, brush(256, 1, 1048574, pressed(0, 0, highest, 0, highest, 1024)...))
}

// P14.1: a stroke with one point has one dab, whatever its phase and spacing.
func TestValidOnePoint(t *testing.T) {
	for _, spacing := range []int{1, 2, 4096} {
		for _, phase := range []int{0, 1, 4096, 1048575} {
			expectValid(t, brush(8, spacing, phase, at(lowest, highest, 255)))
			expectInvalid(t, brush(8, 0, phase, at(0, 0, 255)))
			expectInvalid(t, brush(8, spacing, -1, at(0, 0, 255)))
		}
	}
}

// P14.1: the strokes that other tests use.
func TestValidOfSamples(t *testing.T) {
	for _, s := range validStrokes() {
		expectValid(t, s)
	}
	for _, s := range invalidStrokes() {
		expectInvalid(t, s)
	}
	for seed := range 400 {
		expectValid(t, scatteredStroke(seed))
	}
}
