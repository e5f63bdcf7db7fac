package rect_test

import (
	"slices"
	"testing"

	"gouache/api"
	"gouache/rect"
)

// expectParts reports a difference that does not consist of the wanted rectangles in their order.
func expectParts(t *testing.T, a, b api.Rect, want ...api.Rect) {
	t.Helper()
	if got := rect.Minus(a, b); !slices.Equal(got, want) {
		t.Errorf("Minus(%v, %v) is %v, not %v", a, b, got, want)
	}
}

// P3.3: the example of the chapter, and rectangles that cut off one side or a corner.
func TestMinusReturnsPartsInOrder(t *testing.T) {
	expectParts(t, of(0, 0, 4, 4), of(1, 1, 3, 3), of(0, 0, 4, 1), of(0, 3, 4, 4), of(0, 1, 1, 3), of(3, 1, 4, 3))
	expectParts(t, of(0, 0, 10, 6), of(4, -2, 12, 3), of(0, 3, 10, 6), of(0, 0, 4, 3))
	expectParts(t, of(0, 0, 10, 6), of(-4, 2, 3, 90), of(0, 0, 10, 2), of(3, 2, 10, 6))
	expectParts(t, of(-9, -9, -1, -1), of(-7, -20, -5, 20), of(-9, -9, -7, -1), of(-5, -9, -1, -1))
	expectParts(t, of(-9, -9, -1, -1), of(-20, -7, 20, -5), of(-9, -9, -1, -7), of(-9, -5, -1, -1))
	expectParts(t, of(0, 0, 1, 9), of(0, 4, 1, 5), of(0, 0, 1, 4), of(0, 5, 1, 9))
	expectParts(t, of(-70000, 0, 70000, 1), of(-65536, -65536, 65536, 65536), of(-70000, 0, -65536, 1), of(65536, 0, 70000, 1))
}

// P3.3: each part is there exactly if there is a margin on its side; the hole may also reach beyond a.
func TestMinusLeavesOutEmptyParts(t *testing.T) {
	a := of(-2, -3, 8, 7)
	for sides := range 16 {
		above, below, left, right := sides&1, sides>>1&1, sides>>2&1, sides>>3
		hole := of(a.X0+left, a.Y0+above, a.X1-right, a.Y1-below)
		var want []api.Rect
		if above == 1 {
			want = append(want, of(-2, -3, 8, -2))
		}
		if below == 1 {
			want = append(want, of(-2, 6, 8, 7))
		}
		if left == 1 {
			want = append(want, of(-2, hole.Y0, -1, hole.Y1))
		}
		if right == 1 {
			want = append(want, of(7, hole.Y0, 8, hole.Y1))
		}
		expectParts(t, a, hole, want...)
		beyond := of(hole.X0-5*(1-left), hole.Y0-5*(1-above), hole.X1+5*(1-right), hole.Y1+5*(1-below))
		expectParts(t, a, beyond, want...)
	}
}

// P3.3: without a common point, a alone is left; the rectangles lie apart or touch, or one of them is empty.
func TestMinusWithoutCommonPoints(t *testing.T) {
	a := of(0, 0, 10, 6)
	for _, b := range []api.Rect{
		of(10, 0, 12, 6), of(-2, 0, 0, 6), of(0, 6, 10, 8), of(0, -2, 10, 0), of(10, 6, 11, 7), of(-1, -1, 0, 0), of(100, 100, 200, 200),
		{}, of(3, 3, 3, 3), of(4, 0, 4, 6), of(0, 4, 10, 4), of(7, 1, 2, 5), of(1, 5, 9, 2), of(10, 6, 0, 0),
	} {
		expectParts(t, a, b, a)
	}
	for _, empty := range []api.Rect{{}, of(3, 3, 3, 9), of(3, 3, 9, 3), of(9, 3, 3, 9), of(3, 9, 9, 3), of(9, 9, 3, 3)} {
		expectParts(t, empty, a)
		expectParts(t, empty, empty)
		expectParts(t, empty, api.Rect{})
	}
}

// P3.3: nothing is left of a rectangle inside b.
func TestMinusOfARectInsideTheOther(t *testing.T) {
	a := of(-3, 0, 10, 6)
	for _, b := range []api.Rect{a, of(-4, 0, 10, 6), of(-3, -1, 10, 6), of(-3, 0, 11, 6), of(-3, 0, 10, 7), of(least, least, greatest, greatest)} {
		expectParts(t, a, b)
	}
}

// P3.3: the sides of the parts are those of a and b, at the limits of the integers too.
func TestMinusOfGreatRects(t *testing.T) {
	whole := of(least, least, greatest, greatest)
	expectParts(t, whole, of(0, 0, 1, 1), of(least, least, greatest, 0), of(least, 1, greatest, greatest), of(least, 0, 0, 1), of(1, 0, greatest, 1))
	expectParts(t, whole, of(least, least, greatest, greatest-1), of(least, greatest-1, greatest, greatest))
	expectParts(t, whole, of(least+1, least, greatest, greatest), of(least, least, least+1, greatest))
	expectParts(t, whole, of(greatest, 0, least, 1), whole)
	expectParts(t, whole, whole)
}

// P3.3: all pairs of small rectangles. No part is empty, and each point that is left lies in exactly one part.
func TestMinusCoversTheRestExactly(t *testing.T) {
	for _, a := range smallRects() {
		for _, b := range smallRects() {
			var covered uint
			for _, part := range rect.Minus(a, b) {
				if points(part) == 0 {
					t.Errorf("Minus(%v, %v) has the empty part %v", a, b, part)
				}
				if covered&points(part) != 0 {
					t.Errorf("Minus(%v, %v) covers a point twice", a, b)
				}
				covered |= points(part)
			}
			if covered != points(a)&^points(b) {
				t.Errorf("Minus(%v, %v) is %v", a, b, rect.Minus(a, b))
			}
		}
	}
}

// R3: a result is new memory, which its caller may change.
func TestMinusReturnsNewSlices(t *testing.T) {
	a, b := of(0, 0, 4, 4), of(1, 1, 3, 3)
	changed := rect.Minus(a, b)
	for i := range changed {
		changed[i] = api.Rect{}
	}
	expectParts(t, a, b, of(0, 0, 4, 1), of(0, 3, 4, 4), of(0, 1, 1, 3), of(3, 1, 4, 3))
}
