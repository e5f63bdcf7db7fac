package selection_test

import (
	"math/big"
	"testing"

	"gouache/api"
	"gouache/selection"
)

// expectCover reports another coverage.
func expectCover(t *testing.T, polygon []api.Point, x, y, want int) {
	t.Helper()
	if got := selection.Cover(polygon, x, y); got != want {
		t.Fatalf("Cover of (%d, %d) by %v is %d, not %d", x, y, polygon, got, want)
	}
}

// expectCovered reports coverages other than those of the model, within the bounds of a polygon and around them.
func expectCovered(t *testing.T, polygon []api.Point) {
	t.Helper()
	b, _ := extent(polygon)
	for y := b.Y0 - 2; y < b.Y1+2; y++ {
		for x := b.X0 - 2; x < b.X1+2; x++ {
			expectCover(t, polygon, x, y, coverage(polygon, x, y))
		}
	}
}

// P15.1: the examples of the chapter.
func TestCover(t *testing.T) {
	expectCover(t, path(0, 0, 2, 0, 2, 1, 0, 1), 1, 0, 255)
	expectCover(t, path(0, 0, 1, 0, 0, 1), 0, 0, 96)
	// The samples on the slanting edge are inside if the polygon is to the right of it.
	expectCover(t, path(1, 0, 1, 1, 0, 1), 0, 0, 159)
}

// P15.1: the coverage for each number of samples, all of which triangles with small coordinates have.
func TestCoverOfEachNumber(t *testing.T) {
	want := []int{0, 16, 32, 48, 64, 80, 96, 112, 128, 143, 159, 175, 191, 207, 223, 239, 255}
	seen := map[int]bool{}
	next := scatter(15)
	for range 2000 {
		polygon := path(next(7)-3, next(7)-3, next(7)-3, next(7)-3, next(7)-3, next(7)-3)
		n := 0
		for sample := range 16 {
			if isInside([][]api.Point{polygon}, 1+2*(sample%4), 1+2*(sample/4)) {
				n++
			}
		}
		expectCover(t, polygon, 0, 0, want[n])
		seen[n] = true
	}
	if len(seen) != 17 {
		t.Errorf("of the numbers of samples, only %v were seen", seen)
	}
}

// P15.1: polygons of all kinds, in both orientations, from each starting point, elsewhere, and with repeated points.
func TestCoverOfManyPolygons(t *testing.T) {
	for _, polygon := range polygons() {
		expectCovered(t, polygon)
		expectCovered(t, reversed(polygon))
		expectCovered(t, moved(polygon, -1000, 777))
		b := bounds(polygon)
		for i := range polygon {
			other := rotated(polygon, i)
			repeated := append(append(path(), other[0], other[0]), other[1:]...)
			for y := b.Y0; y < b.Y1; y++ {
				for x := b.X0; x < b.X1; x += 3 {
					want := coverage(polygon, x, y)
					expectCover(t, other, x, y, want)
					expectCover(t, reversed(other), x, y, want)
					if len(repeated) <= 64 {
						expectCover(t, repeated, x, y, want)
					}
				}
			}
		}
	}
	for seed := range 300 {
		polygon := scatteredPolygon(seed)
		expectCovered(t, polygon)
		expectCovered(t, moved(polygon, 3*seed-500, 100-seed))
	}
}

// P15.1: the definition in fractions.
func TestCoverInFractions(t *testing.T) {
	for seed := range 150 {
		polygon := scatteredPolygon(seed)
		b, next := bounds(polygon), scatter(seed)
		for range 20 {
			x, y := b.X0+next(b.X1-b.X0+1), b.Y0+next(b.Y1-b.Y0+1)
			n := 0
			for sample := range 16 {
				u, v := big.NewRat(int64(8*x+2*(sample%4)+1), 8), big.NewRat(int64(8*y+2*(sample/4)+1), 8)
				crossed := 0
				for i, from := range polygon {
					if crossesInFractions(from, polygon[(i+1)%len(polygon)], u, v) {
						crossed++
					}
				}
				n += crossed % 2
			}
			if x == b.X1 || y == b.Y1 {
				n = 0
			}
			expectCover(t, polygon, x, y, (255*n+8)/16)
		}
	}
}

// crossesInFractions reports whether the ray to the right from (u, v) crosses an edge.
func crossesInFractions(from, to api.Point, u, v *big.Rat) bool {
	x1, y1 := big.NewRat(int64(from.X), 1), big.NewRat(int64(from.Y), 1)
	x2, y2 := big.NewRat(int64(to.X), 1), big.NewRat(int64(to.Y), 1)
	if (y1.Cmp(v) > 0) == (y2.Cmp(v) > 0) {
		return false
	}
	slope := new(big.Rat).Quo(new(big.Rat).Sub(x2, x1), new(big.Rat).Sub(y2, y1))
	x := new(big.Rat).Add(x1, new(big.Rat).Mul(slope, new(big.Rat).Sub(v, y1)))
	return x.Cmp(u) > 0
}

// P15.1: pixels that samples on edges, corners and crossings divide.
func TestCoverBesideEdges(t *testing.T) {
	// The diagonal runs through four samples, which are inside of what lies to the right of it only.
	expectCover(t, path(0, 0, 1, 1, 0, 1), 0, 0, 96)
	expectCover(t, path(0, 0, 1, 0, 1, 1), 0, 0, 159)
	// It runs through the samples of each pixel on its way.
	for n := range 8 {
		expectCover(t, path(0, 0, 8, 8, 0, 8), n, n, 96)
		expectCover(t, path(0, 0, 8, 0, 8, 8), n, n, 159)
		expectCover(t, path(8, 0, 8, 8, 0, 8), 7-n, n, 159)
		expectCover(t, path(0, 0, 8, 0, 0, 8), 7-n, n, 96)
	}
	// Edges with the slopes 3, 1/3, 5/3 and so on run through some samples, too.
	for _, x := range []struct {
		dx, dy int
	}{{1, 3}, {3, 1}, {3, 5}, {5, 3}, {1, 7}, {7, 1}, {7, 5}, {-1, 3}, {-3, 1}, {-5, 7}} {
		expectCovered(t, path(0, 0, x.dx, x.dy, 0, x.dy))
		expectCovered(t, path(0, 0, x.dx, x.dy, x.dx, 0))
		expectCovered(t, path(0, 0, 2*x.dx, 2*x.dy, 3*x.dx, 0))
	}
	// Corners at the same height as others: the ray of no sample runs through a corner, but those above and below it do not see the same edges.
	hourglass := path(0, 0, 2, 0, 0, 2, 2, 2)
	for _, x := range []struct{ x, y, want int }{{0, 0, 159}, {1, 0, 96}, {0, 1, 159}, {1, 1, 96}} {
		expectCover(t, hourglass, x.x, x.y, x.want)
	}
}

// P15.1: an edge along which a polygon runs twice has no effect, and what lies inside of two windings is outside.
func TestCoverTwice(t *testing.T) {
	for y := -1; y < 10; y++ {
		for x := -1; x < 10; x++ {
			expectCover(t, path(0, 0, 8, 0, 8, 8, 0, 8, 0, 0, 8, 0, 8, 8, 0, 8), x, y, 0)
			expectCover(t, path(0, 0, 8, 8, 0, 0), x, y, 0)
			once := coverage(square(1, 1, 5, 6), x, y)
			expectCover(t, path(1, 1, 9, 1, 5, 1, 5, 6, 5, 9, 5, 6, 1, 6), x, y, once)
			want := once
			if x >= 2 && x < 4 && y >= 2 && y < 4 {
				want = 0
			}
			expectCover(t, path(1, 1, 5, 1, 5, 6, 1, 6, 1, 1, 2, 2, 4, 2, 4, 4, 2, 4, 2, 2), x, y, want)
		}
	}
}

// P15.1: pixels on each side of the bounds, and far away.
func TestCoverOutside(t *testing.T) {
	s := square(-3, 5, 4, 9)
	for _, x := range []struct{ x, y, want int }{
		{-3, 5, 255}, {3, 5, 255}, {-3, 8, 255}, {3, 8, 255}, {-4, 5, 0}, {-3, 4, 0}, {4, 5, 0}, {3, 4, 0}, {-4, 8, 0}, {-3, 9, 0}, {4, 8, 0}, {3, 9, 0}, {-4, 4, 0}, {4, 9, 0},
	} {
		expectCover(t, s, x.x, x.y, x.want)
	}
	far := []int{least, least + 1, least / 8, least/8 - 1, -1 << 61, -1 << 60, -1 << 32, lowest - 1, highest, 1 << 32, 1 << 60, 1 << 61, 1 << 62, greatest/8 + 1, greatest - 1, greatest}
	for _, polygon := range [][]api.Point{s, square(lowest, lowest, highest, highest), path(0, 0, 7, 3, 2, 9)} {
		for _, n := range far {
			for _, m := range append([]int{0, 5, 6}, far...) {
				expectCover(t, polygon, n, m, 0)
				expectCover(t, polygon, m, n, 0)
			}
		}
	}
}

// P15.1: polygons of the greatest size.
func TestCoverAtLimits(t *testing.T) {
	all := square(lowest, lowest, highest, highest)
	left := path(lowest, lowest, highest, highest, lowest, highest)
	kite := path(lowest, 0, 0, lowest, highest, 1, -1, highest)
	for _, x := range []int{lowest - 1, lowest, lowest + 1, -300, -1, 0, 1, 500, highest - 2, highest - 1, highest} {
		for _, y := range []int{lowest - 1, lowest, lowest + 1, -77, -1, 0, 1, 501, highest - 2, highest - 1, highest} {
			for _, polygon := range [][]api.Point{all, left, kite, reversed(kite)} {
				expectCover(t, polygon, x, y, coverage(polygon, x, y))
			}
		}
		expectCover(t, left, x, x, map[bool]int{true: 96, false: 0}[x >= lowest && x < highest])
	}
	for _, corner := range []api.Point{pt(lowest, lowest), pt(lowest, highest), pt(highest, lowest), pt(highest, highest)} {
		far := moved(path(0, 0, 7, 3, 2, 9), 0, 0)
		for i := range far {
			if corner.X == highest {
				far[i].X = -far[i].X
			}
			if corner.Y == highest {
				far[i].Y = -far[i].Y
			}
		}
		expectCovered(t, moved(far, corner.X, corner.Y))
	}
	// Almost horizontal and almost vertical edges across the whole canvas.
	for _, polygon := range [][]api.Point{
		path(lowest, 0, highest, 1, highest, 0), path(lowest, 0, highest, 1, lowest, 1), path(0, lowest, 1, highest, 0, highest), path(0, lowest, 1, highest, 1, lowest),
	} {
		for n := lowest; n < highest; n += 4093 {
			for m := -1; m <= 1; m++ {
				expectCover(t, polygon, n, m, coverage(polygon, n, m))
				expectCover(t, polygon, m, n, coverage(polygon, m, n))
			}
		}
	}
}
