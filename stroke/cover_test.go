package stroke_test

import (
	"testing"

	"gouache/api"
	"gouache/stroke"
)

// expectCover reports another coverage.
func expectCover(t *testing.T, d api.Dab, x, y, want int) {
	t.Helper()
	if got := stroke.Cover(d, x, y); got != want {
		t.Errorf("Cover of (%d, %d) by %v is %d, not %d", x, y, d, got, want)
	}
}

// P14.3: the example of the chapter, and the coverage for each number of samples.
func TestCover(t *testing.T) {
	expectCover(t, dab(8, 8, 8), 0, 0, 191)
	expectCover(t, dab(8, 8, 100), 0, 0, 255)
	expectCover(t, dab(8, 8, 8), 1, 0, 0)
	expectCover(t, dab(8, 8, 8), 0, -1, 0)
	expectCover(t, dab(2, 2, 1), 0, 0, 16)
	// The coverage of one sample after another: one to 16 of them.
	want := []int{0, 16, 32, 48, 64, 80, 96, 112, 128, 143, 159, 175, 191, 207, 223, 239, 255}
	seen := map[int]bool{}
	for radius := 1; radius <= 40; radius++ {
		for x := -20; x <= 20; x++ {
			d := dab(x, 3, radius)
			n := 0
			for sample := range 16 {
				dx, dy := 2+4*(sample%4)-x, 2+4*(sample/4)-3
				if dx*dx+dy*dy <= radius*radius {
					n++
				}
			}
			expectCover(t, d, 0, 0, want[n])
			seen[n] = true
		}
	}
	if len(seen) != 17 {
		t.Errorf("of the numbers of samples, only %v were seen", seen)
	}
}

// P14.3: samples exactly on the circle count, and each sample has its place.
func TestCoverOnTheCircle(t *testing.T) {
	for j := range 4 {
		for i := range 4 {
			x, y := 2+4*i, 2+4*j
			// A dab of radius 1 reaches this sample only.
			expectCover(t, dab(x, y, 1), 0, 0, 16)
			for _, beside := range [][2]int{{-1, 0}, {1, 0}, {0, -1}, {0, 1}} {
				expectCover(t, dab(x+beside[0], y+beside[1], 1), 0, 0, 16)
				expectCover(t, dab(x+2*beside[0], y+2*beside[1], 1), 0, 0, 0)
			}
			expectCover(t, dab(x+1, y+1, 1), 0, 0, 0)
			expectCover(t, dab(x-1, y-1, 1), 0, 0, 0)
		}
	}
	// From the corner outside, at distances with integer coordinates: 3, 4, 5 and 5, 12, 13.
	expectCover(t, dab(2-3, 2-4, 5), 0, 0, 16)
	expectCover(t, dab(2-3, 2-4, 4), 0, 0, 0)
	expectCover(t, dab(14+5, 14+12, 13), 0, 0, 16)
	expectCover(t, dab(14+5, 14+12, 12), 0, 0, 0)
	expectCover(t, dab(14+5, 14+13, 13), 0, 0, 0)
	expectCover(t, dab(14+6, 14+12, 13), 0, 0, 0)
	expectCover(t, dab(14+256, 14, 256), 0, 0, 16)
	expectCover(t, dab(14+256, 13, 256), 0, 0, 0)
	expectCover(t, dab(2, 2-255, 255), 0, 0, 16)
}

// P14.3: the radius of a dab.
func TestCoverByRadius(t *testing.T) {
	for _, radius := range []int{0, -1, 257, 258, -256, 1 << 32, 1<<32 + 8, least, greatest, -8} {
		for _, d := range []api.Dab{dab(2, 2, radius), dab(8, 8, radius), dab(-5, -5, radius)} {
			expectCover(t, d, 0, 0, 0)
			expectCover(t, d, -1, -1, 0)
		}
	}
	expectCover(t, dab(2, 2, 1), 0, 0, 16)
	expectCover(t, dab(8, 8, 256), 0, 0, 255)
	expectCover(t, dab(8, 8, 256), 15, 0, 255)
	expectCover(t, dab(8, 8, 256), 16, 0, 128)
	expectCover(t, dab(8, 8, 256), 17, 0, 0)
}

// P14.3: dabs at the limits of coordinates, and one unit beyond them.
func TestCoverAtLimitsOfDabs(t *testing.T) {
	expectCover(t, dab(lowest, lowest, 256), -65536, -65536, 255)
	expectCover(t, dab(lowest, lowest, 256), -65537, -65537, 255)
	expectCover(t, dab(highest, highest, 256), 65535, 65535, 255)
	expectCover(t, dab(highest, highest, 256), 65536, 65536, 255)
	expectCover(t, dab(lowest, highest, 256), -65550, 65535, 255)
	for _, n := range []int{lowest - 1, highest + 1, least, greatest, 1<<32 + 8, least + 8} {
		for _, x := range []int{-65537, -65536, 0, 65535, 65536} {
			expectCover(t, dab(n, 8, 256), x, 0, 0)
			expectCover(t, dab(8, n, 256), 0, x, 0)
			expectCover(t, dab(n, n, 256), x, x, 0)
		}
	}
}

// P14.3: pixels that no valid dab reaches, and those at the limits of integers, where the squares would wrap around.
func TestCoverAtLimitsOfPixels(t *testing.T) {
	for _, n := range []int{-80001, -80000, 80000, 80001, least, greatest, 1 << 28, 1 << 32, 1 << 60, -1 << 60, 1 << 59, least / 16, greatest / 16} {
		for _, d := range []api.Dab{dab(0, 0, 256), dab(8, 8, 256), dab(lowest, lowest, 256), dab(highest, highest, 256)} {
			expectCover(t, d, n, 0, 0)
			expectCover(t, d, 0, n, 0)
			expectCover(t, d, n, n, 0)
		}
	}
}

// P14.3: negative coordinates, of dabs and of pixels.
func TestCoverOfNegativeCoordinates(t *testing.T) {
	expectCover(t, dab(-16, -16, 16), -1, -1, 207)
	expectCover(t, dab(-2, -2, 1), -1, -1, 16)
	expectCover(t, dab(-14, -14, 1), -1, -1, 16)
	expectCover(t, dab(-2, -2, 1), 0, 0, 0)
	expectCover(t, dab(-8, -8, 8), -1, -1, 191)
	expectCover(t, dab(-8, 8, 8), -1, 0, 191)
	expectCover(t, dab(8, -8, 8), 0, -1, 191)
	expectCover(t, dab(-8, 8, 8), 0, -1, 0)
}

// P14.3: columns and rows are told apart.
func TestCoverIsNotTransposed(t *testing.T) {
	expectCover(t, dab(24, 8, 8), 1, 0, 191)
	expectCover(t, dab(24, 8, 8), 0, 1, 0)
	expectCover(t, dab(16, 8, 4), 0, 0, 32)
	expectCover(t, dab(8, 16, 4), 0, 0, 32)
	expectCover(t, dab(18, 2, 5), 0, 0, 16)
	expectCover(t, dab(2, 18, 5), 0, 0, 16)
	expectCover(t, dab(18, 2, 5), 1, 0, 48)
	expectCover(t, dab(18, 2, 5), 0, 1, 0)
}

// P14.3: all pixels around dabs of all sizes.
func TestCoverOfManyPixels(t *testing.T) {
	for seed := range 600 {
		next := scatter(seed)
		d := dab(next(801)-400, next(801)-400, []int{next(20), next(258), next(258)}[next(3)])
		cx, cy := d.X>>4, d.Y>>4
		for y := cy - 19; y <= cy+19; y++ {
			for x := cx - 19; x <= cx+19; x++ {
				expectCover(t, d, x, y, coverage(d, x, y))
			}
		}
	}
}
