package rect_test

import (
	"math"
	"math/bits"
	"testing"

	"gouache/api"
	"gouache/rect"
)

const (
	least    = math.MinInt
	greatest = math.MaxInt
)

// of returns the rectangle with these fields.
func of(x0, y0, x1, y1 int) api.Rect {
	return api.Rect{X0: x0, Y0: y0, X1: x1, Y1: y1}
}

// smallRects returns all rectangles with fields from -1 to 2. Most of them are empty, in either direction or in both.
func smallRects() []api.Rect {
	var rects []api.Rect
	for i := range 256 {
		rects = append(rects, of(i&3-1, i>>2&3-1, i>>4&3-1, i>>6-1))
	}
	return rects
}

// points returns the set of the points of a small rectangle, a bit for each of the points with coordinates from -1 to 1, from the definition of "contains".
func points(r api.Rect) uint {
	var set uint
	for y := -1; y <= 1; y++ {
		for x := -1; x <= 1; x++ {
			if x >= r.X0 && x < r.X1 && y >= r.Y0 && y < r.Y1 {
				set |= 1 << (3*(y+1) + x + 1)
			}
		}
	}
	return set
}

// extremeRects returns rectangles, many of them empty, with all combinations of some fields around the limits of the coordinates and of the integers.
func extremeRects() []api.Rect {
	values := []int{least, least + 1, -65537, -65536, -1, 0, 1, 65536, 65537, greatest - 1, greatest}
	var rects []api.Rect
	for _, x0 := range values {
		for _, y0 := range values {
			for _, x1 := range values {
				for _, y1 := range values {
					rects = append(rects, of(x0, y0, x1, y1))
				}
			}
		}
	}
	return rects
}

// expectRect reports a rectangle that is not the wanted one, field by field.
func expectRect(t *testing.T, call string, got, want api.Rect) {
	t.Helper()
	if got != want {
		t.Errorf("%s is %v, not %v", call, got, want)
	}
}

// P3.1: an empty rectangle has no points; both kinds, the zero rectangle, and sides in reverse order.
func TestEmptyIsWithoutPoints(t *testing.T) {
	for _, r := range smallRects() {
		if rect.Empty(r) != (points(r) == 0) {
			t.Errorf("Empty(%v) is %v", r, rect.Empty(r))
		}
	}
	for _, x := range []struct {
		r    api.Rect
		want bool
	}{
		{api.Rect{}, true},
		{of(0, 0, 1, 1), false},
		{of(3, 0, 3, 5), true},
		{of(0, 3, 5, 3), true},
		{of(4, 0, 3, 5), true},
		{of(0, 4, 5, 3), true},
		{of(5, 5, 1, 1), true},
		{of(-7, -9, -6, -8), false},
		{of(least, least, greatest, greatest), false},
		{of(greatest, greatest, least, least), true},
		{of(least, 0, greatest, 0), true},
		{of(greatest, 0, least, 5), true},
		{of(greatest-1, least, greatest, least+1), false},
		{of(greatest, least, greatest, least+1), true},
	} {
		if rect.Empty(x.r) != x.want {
			t.Errorf("Empty(%v) is not %v", x.r, x.want)
		}
	}
}

// P3.1: the left and upper sides belong to a rectangle, the right and lower ones do not.
func TestHasIsHalfOpen(t *testing.T) {
	for _, r := range smallRects() {
		for y := -1; y <= 1; y++ {
			for x := -1; x <= 1; x++ {
				want := points(r)>>(3*(y+1)+x+1)&1 == 1
				if rect.Has(r, api.Point{X: x, Y: y}) != want {
					t.Errorf("Has(%v, (%d, %d)) is not %v", r, x, y, want)
				}
			}
		}
	}
	whole := of(least, least, greatest, greatest)
	for _, x := range []struct {
		r    api.Rect
		p    api.Point
		want bool
	}{
		{of(-8, -4, -2, 7), api.Point{X: -8, Y: -4}, true},
		{of(-8, -4, -2, 7), api.Point{X: -3, Y: 6}, true},
		{of(-8, -4, -2, 7), api.Point{X: -9, Y: 0}, false},
		{of(-8, -4, -2, 7), api.Point{X: -2, Y: 0}, false},
		{of(-8, -4, -2, 7), api.Point{X: -5, Y: -5}, false},
		{of(-8, -4, -2, 7), api.Point{X: -5, Y: 7}, false},
		{whole, api.Point{}, true},
		{whole, api.Point{X: least, Y: least}, true},
		{whole, api.Point{X: greatest - 1, Y: greatest - 1}, true},
		{whole, api.Point{X: greatest, Y: 0}, false},
		{whole, api.Point{X: 0, Y: greatest}, false},
		{of(5, 0, 2, 9), api.Point{X: 3, Y: 1}, false},
		{of(5, 0, 2, 9), api.Point{X: 5, Y: 1}, false},
	} {
		if rect.Has(x.r, x.p) != x.want {
			t.Errorf("Has(%v, %v) is not %v", x.r, x.p, x.want)
		}
	}
}

// P3.1: all pairs of small rectangles; empty rectangles are equal, whatever their fields are.
func TestEqualAndInsideCompareSetsOfPoints(t *testing.T) {
	for _, a := range smallRects() {
		for _, b := range smallRects() {
			if want := points(a) == points(b); rect.Equal(a, b) != want {
				t.Errorf("Equal(%v, %v) is not %v", a, b, want)
			}
			if want := points(a)&^points(b) == 0; rect.Inside(a, b) != want {
				t.Errorf("Inside(%v, %v) is not %v", a, b, want)
			}
		}
	}
}

// P3.1: equality and inclusion with each side changed alone, and at the limits of the integers.
func TestEqualAndInsideOfGreatRects(t *testing.T) {
	whole := of(least, least, greatest, greatest)
	r := of(-100, -50, 1<<40, 70000)
	for _, x := range []struct {
		a, b          api.Rect
		equal, inside bool
	}{
		{r, r, true, true},
		{r, of(-99, -50, 1<<40, 70000), false, false},
		{r, of(-100, -49, 1<<40, 70000), false, false},
		{r, of(-100, -50, 1<<40-1, 70000), false, false},
		{r, of(-100, -50, 1<<40, 69999), false, false},
		{r, of(-101, -50, 1<<40, 70000), false, true},
		{r, of(-100, -51, 1<<40, 70000), false, true},
		{r, of(-100, -50, 1<<40+1, 70000), false, true},
		{r, of(-100, -50, 1<<40, 70001), false, true},
		{r, whole, false, true},
		{whole, r, false, false},
		{whole, whole, true, true},
		{api.Rect{}, of(7, 7, 7, 7), true, true},
		{of(9, 0, 2, 5), of(0, 9, 5, 2), true, true},
		{of(9, 0, 2, 5), r, false, true},
		{r, of(9, 0, 2, 5), false, false},
		{r, api.Rect{}, false, false},
		{of(greatest, 0, least, 1), of(3, 4, 5, 6), false, true},
	} {
		if rect.Equal(x.a, x.b) != x.equal || rect.Equal(x.b, x.a) != x.equal {
			t.Errorf("%v and %v: Equal is not %v", x.a, x.b, x.equal)
		}
		if rect.Inside(x.a, x.b) != x.inside {
			t.Errorf("Inside(%v, %v) is not %v", x.a, x.b, x.inside)
		}
	}
}

// P3.1: the area is the number of points, and 0 if there is none, although the product may be positive.
func TestAreaCountsPoints(t *testing.T) {
	for _, r := range smallRects() {
		if want := bits.OnesCount(points(r)); rect.Area(r) != want {
			t.Errorf("Area(%v) is %d, not %d", r, rect.Area(r), want)
		}
	}
	for _, x := range []struct {
		r    api.Rect
		want int
	}{
		{of(3, 1, 5, 8), 14},
		{of(-65536, -65536, 65536, 65536), 1 << 34},
		{of(5, 8, 3, 1), 0},
		{of(5, 1, 3, 8), 0},
		{of(3, 8, 5, 1), 0},
		// Both differences and the product wrap around.
		{of(0, 0, 1<<32, 1<<31), least},
		{of(0, 0, 1<<32, 1<<32), 0},
		{of(0, 0, 1<<32+1, 1<<32), 1 << 32},
		{of(least, 0, greatest, 1), -1},
		{of(least, least, greatest, greatest), 1},
		{of(-1, 0, greatest, 3), least},
		{of(greatest, 0, least, 3), 0},
	} {
		if got := rect.Area(x.r); got != x.want {
			t.Errorf("Area(%v) is %d, not %d", x.r, got, x.want)
		}
	}
}

// P3.1: all combinations of coordinates at, within and beyond the limit.
func TestValidKeepsToTheLimits(t *testing.T) {
	within := func(n int) bool { return n >= -65536 && n <= 65536 }
	for _, r := range extremeRects() {
		want := r.X0 < r.X1 && r.Y0 < r.Y1 && within(r.X0) && within(r.Y0) && within(r.X1) && within(r.Y1)
		if rect.Valid(r) != want {
			t.Errorf("Valid(%v) is not %v", r, want)
		}
	}
	for _, x := range []struct {
		r    api.Rect
		want bool
	}{
		{of(-65536, -65536, 65536, 65536), true},
		{of(65535, 65535, 65536, 65536), true},
		{of(-65537, 0, 5, 5), false},
		{of(0, -65537, 5, 5), false},
		{of(0, 0, 65537, 5), false},
		{of(0, 0, 5, 65537), false},
		{api.Rect{}, false},
		{of(3, 0, 3, 5), false},
		{of(0, 4, 5, 3), false},
	} {
		if rect.Valid(x.r) != x.want {
			t.Errorf("Valid(%v) is not %v", x.r, x.want)
		}
	}
}

// P3.2: all pairs of small rectangles. The fields of a rectangle that is not empty follow from its points.
func TestIntersectAndUnionOfSmallRects(t *testing.T) {
	for _, a := range smallRects() {
		for _, b := range smallRects() {
			intersection, union := rect.Intersect(a, b), rect.Union(a, b)
			if points(intersection) != points(a)&points(b) {
				t.Errorf("Intersect(%v, %v) is %v", a, b, intersection)
			}
			if want := boundsOf(points(a) | points(b)); union != want {
				t.Errorf("Union(%v, %v) is %v, not %v", a, b, union, want)
			}
			if points(intersection) == 0 && intersection != (api.Rect{}) {
				t.Errorf("Intersect(%v, %v) is the empty rectangle %v", a, b, intersection)
			}
		}
	}
}

// boundsOf returns the smallest rectangle that contains a set of points.
func boundsOf(set uint) api.Rect {
	if set == 0 {
		return api.Rect{}
	}
	bounds := of(2, 2, -1, -1)
	for y := -1; y <= 1; y++ {
		for x := -1; x <= 1; x++ {
			if set>>(3*(y+1)+x+1)&1 == 1 {
				bounds = of(min(bounds.X0, x), min(bounds.Y0, y), max(bounds.X1, x+1), max(bounds.Y1, y+1))
			}
		}
	}
	return bounds
}

// P3.2: rectangles that overlap, touch, lie apart or inside one another, are empty, or are as great as can be.
func TestIntersectAndUnion(t *testing.T) {
	whole := of(least, least, greatest, greatest)
	a := of(0, 0, 10, 6)
	for _, x := range []struct {
		a, b, intersection, union api.Rect
	}{
		{a, of(4, -2, 12, 3), of(4, 0, 10, 3), of(0, -2, 12, 6)},
		{a, of(-3, 2, 4, 9), of(0, 2, 4, 6), of(-3, 0, 10, 9)},
		{a, of(2, 1, 7, 5), of(2, 1, 7, 5), a},
		{a, a, a, a},
		{a, of(10, 0, 13, 6), api.Rect{}, of(0, 0, 13, 6)},
		{a, of(-2, 0, 0, 6), api.Rect{}, of(-2, 0, 10, 6)},
		{a, of(0, 6, 10, 7), api.Rect{}, of(0, 0, 10, 7)},
		{a, of(0, -1, 10, 0), api.Rect{}, of(0, -1, 10, 6)},
		{a, of(10, 6, 11, 7), api.Rect{}, of(0, 0, 11, 7)},
		{a, of(-20, -20, -15, -10), api.Rect{}, of(-20, -20, 10, 6)},
		{a, api.Rect{}, api.Rect{}, a},
		{a, of(5, 0, 0, 0), api.Rect{}, a},
		{a, of(5, 2, 5, 4), api.Rect{}, a},
		{a, of(2, 5, 7, 1), api.Rect{}, a},
		{a, of(-50, 3, 50, 3), api.Rect{}, a},
		{of(5, 2, 5, 4), of(-3, 9, 4, 2), api.Rect{}, api.Rect{}},
		{of(5, 2, 5, 4), of(5, 2, 5, 4), api.Rect{}, api.Rect{}},
		{whole, a, a, whole},
		{whole, whole, whole, whole},
		{of(least, 0, least+1, 1), of(greatest-1, 5, greatest, 6), api.Rect{}, of(least, 0, greatest, 6)},
		{of(-70000, -70000, 70000, 70000), of(60000, 60000, 80000, 80000), of(60000, 60000, 70000, 70000), of(-70000, -70000, 80000, 80000)},
	} {
		expectRect(t, "an intersection", rect.Intersect(x.a, x.b), x.intersection)
		expectRect(t, "an intersection, exchanged,", rect.Intersect(x.b, x.a), x.intersection)
		expectRect(t, "a union", rect.Union(x.a, x.b), x.union)
		expectRect(t, "a union, exchanged,", rect.Union(x.b, x.a), x.union)
	}
}

// P3.2: by positive and negative numbers, until nothing is left, and beyond the integers.
func TestGrow(t *testing.T) {
	a := of(0, 0, 10, 6)
	for _, x := range []struct {
		r    api.Rect
		n    int
		want api.Rect
	}{
		{a, 0, a},
		{a, 1, of(-1, -1, 11, 7)},
		{a, 70000, of(-70000, -70000, 70010, 70006)},
		{a, -2, of(2, 2, 8, 4)},
		{a, -3, api.Rect{}},
		{a, -4, api.Rect{}},
		{a, -50, api.Rect{}},
		{of(-9, -9, -2, -2), -3, of(-6, -6, -5, -5)},
		{of(-9, -9, -2, -2), -4, api.Rect{}},
		{api.Rect{}, 5, api.Rect{}},
		{of(3, 3, 3, 8), 5, api.Rect{}},
		{of(3, 3, 8, 3), 5, api.Rect{}},
		{of(8, 3, 3, 8), 0, api.Rect{}},
		{of(8, 8, 3, 3), 100, api.Rect{}},
		{of(8, 8, 3, 3), -100, api.Rect{}},
		// Sides that wrap around.
		{of(0, 0, greatest, 5), 1, api.Rect{}},
		{of(0, 0, 5, greatest), 1, api.Rect{}},
		{of(least, 0, 5, 5), 1, api.Rect{}},
		{of(0, least, 5, 5), 1, api.Rect{}},
		{of(least, least, greatest, greatest), 1, api.Rect{}},
		{of(least, least, greatest, greatest), -1, of(least+1, least+1, greatest-1, greatest-1)},
		{a, greatest, of(least+1, least+1, least+9, least+5)},
		{a, least, of(least, least, least+10, least+6)},
		{of(-3, -3, 10, 6), least, api.Rect{}},
		{of(5, 5, 5, 5), least, api.Rect{}},
	} {
		if got := rect.Grow(x.r, x.n); got != x.want {
			t.Errorf("Grow(%v, %d) is %v, not %v", x.r, x.n, got, x.want)
		}
	}
}

// P3.2: in all directions, and beyond the integers.
func TestMove(t *testing.T) {
	a := of(0, 0, 10, 6)
	for _, x := range []struct {
		r    api.Rect
		x, y int
		want api.Rect
	}{
		{a, 0, 0, a},
		{a, -1, 2, of(-1, 2, 9, 8)},
		{a, 3, -40, of(3, -40, 13, -34)},
		{a, 1 << 40, -1 << 50, of(1<<40, -1<<50, 1<<40+10, -1<<50+6)},
		{api.Rect{}, 5, 7, api.Rect{}},
		{of(3, 0, 3, 5), 5, 7, api.Rect{}},
		{of(0, 3, 5, 3), 5, 7, api.Rect{}},
		{of(9, 9, 1, 1), 5, 7, api.Rect{}},
		{of(9, 9, 1, 1), 0, 0, api.Rect{}},
		// One side, or both, wrap around.
		{a, greatest, 0, api.Rect{}},
		{a, 0, greatest, api.Rect{}},
		{a, greatest - 10, 0, of(greatest-10, 0, greatest, 6)},
		{a, greatest - 9, 0, api.Rect{}},
		{a, least, least, of(least, least, least+10, least+6)},
		{of(5, 5, 10, 6), greatest, greatest, of(least+4, least+4, least+9, least+5)},
		{of(-5, 0, 5, 6), least, 0, api.Rect{}},
		{of(greatest, 0, least, 1), 1, 0, api.Rect{}},
		{of(4, 0, 2, 1), greatest - 3, 0, api.Rect{}},
	} {
		if got := rect.Move(x.r, x.x, x.y); got != x.want {
			t.Errorf("Move(%v, %d, %d) is %v, not %v", x.r, x.x, x.y, got, x.want)
		}
	}
}
