package affine_test

import (
	"math/big"
	"slices"
	"testing"

	"gouache/affine"
	"gouache/api"
)

// needOf returns the smallest rectangle of the sources of corner pixels.
func needOf(a api.Affine, r api.Rect) api.Rect {
	var xs, ys []int
	for _, p := range []api.Point{at(r.X0, r.Y0), at(r.X1-1, r.Y0), at(r.X0, r.Y1-1), at(r.X1-1, r.Y1-1)} {
		source := sourceOf(a, p)
		xs, ys = append(xs, source.X), append(ys, source.Y)
	}
	return box(slices.Min(xs), slices.Min(ys), slices.Max(xs)+1, slices.Max(ys)+1)
}

// centresBetween returns the first pixel of the canvas whose centre is from low to high, and the one behind the last. Both are 0 if there is none.
func centresBetween(low, high *big.Rat) (first, behind int) {
	from, to := max(floorOf(low)-2, -65536), min(floorOf(high)+2, 65535)
	for n := from; n <= to; n++ {
		if low.Cmp(centre(n)) <= 0 && centre(n).Cmp(high) <= 0 {
			if first == behind {
				first = n
			}
			behind = n + 1
		}
	}
	return first, behind
}

// boundsOf returns the rectangle of the pixels of the canvas whose centres are between the coordinates of the images of corner points. It looks at each column and row, so that it is for rectangles with images that are not too large.
func boundsOf(a api.Affine, r api.Rect) api.Rect {
	var us, vs []*big.Rat
	for _, p := range []api.Point{at(r.X0, r.Y0), at(r.X1, r.Y0), at(r.X0, r.Y1), at(r.X1, r.Y1)} {
		u, v := exactOf(a).at(ratio(p.X, 1), ratio(p.Y, 1))
		us, vs = append(us, u), append(vs, v)
	}
	compare := func(a, b *big.Rat) int { return a.Cmp(b) }
	x0, x1 := centresBetween(slices.MinFunc(us, compare), slices.MaxFunc(us, compare))
	y0, y1 := centresBetween(slices.MinFunc(vs, compare), slices.MaxFunc(vs, compare))
	if x0 == x1 || y0 == y1 {
		return api.Rect{}
	}
	return box(x0, y0, x1, y1)
}

// P9.5: what is needed for a rectangle, under placements that stretch, mirror, turn and shear.
func TestNeed(t *testing.T) {
	for _, x := range []struct {
		a       api.Affine
		r, want api.Rect
	}{
		{affine.Identity(), box(-3, 2, 7, 9), box(-3, 2, 7, 9)},
		{affine.Shift(10, -20), box(-3, 2, 7, 9), box(-13, 22, -3, 29)},
		{place(3, 0, 0, 0, 3, 0, 2), box(1, 0, 5, 3), box(1, 0, 4, 2)},
		{place(2, 0, 0, 0, 2, 0, 1), box(0, 0, 4, 2), box(0, 0, 2, 1)},
		{place(2, 0, 0, 0, 2, 0, 1), box(-1, -1, 1, 1), box(-1, -1, 1, 1)},
		{place(2, 0, 0, 0, 2, 0, 1), box(-2, -1, 1, 2), box(-1, -1, 1, 1)},
		{place(1, 0, 0, 0, 1, 0, 2), box(0, 0, 2, 1), box(1, 1, 4, 2)},
		{place(-1, 0, 0, 0, 1, 0, 1), box(0, 0, 4, 2), box(-4, 0, 0, 2)},
		{place(1, 0, 0, 0, -1, 8, 1), box(0, 0, 4, 2), box(0, 6, 4, 8)},
		{place(0, -1, 10, 1, 0, 0, 1), box(0, 0, 4, 2), box(0, 6, 2, 10)},
		{place(1, 2, 0, 0, 1, 0, 1), box(0, 0, 4, 3), box(-5, 0, 3, 3)},
		{place(1, 0, 0, -1, 1, 0, 1), box(0, 0, 4, 3), box(0, 1, 4, 7)},
		// One pixel needs one pixel.
		{place(3, 0, 0, 0, 3, 0, 1), box(4, -5, 5, -4), box(1, -2, 2, -1)},
		{place(1, 0, 0, 0, 1, 0, 3), box(4, -5, 5, -4), box(13, -14, 14, -13)},
		// The edges of the canvas, and sources beyond it.
		{affine.Identity(), box(-65536, -65536, 65536, 65536), box(-65536, -65536, 65536, 65536)},
		{affine.Identity(), box(65535, -65536, 65536, -65535), box(65535, -65536, 65536, -65535)},
		{affine.Shift(1<<28, -1<<28), box(-65536, -65536, 65536, 65536), box(-65536-1<<28, -65536+1<<28, 65536-1<<28, 65536+1<<28)},
		{place(1, 0, 0, 0, 1, 0, 4096), box(-65536, 65535, -65535, 65536), box(-268433408, 268433408, -268433407, 268433409)},
	} {
		if got, err := affine.Need(x.a, x.r); got != x.want || err != api.OK || got != needOf(x.a, x.r) {
			t.Errorf("%v needs under %v %v with the error %d, not %v", x.r, x.a, got, err, x.want)
		}
	}
}

// P9.5: the bounds of a rectangle, under placements that stretch, mirror, turn and shear.
func TestBounds(t *testing.T) {
	for _, x := range []struct {
		a       api.Affine
		r, want api.Rect
	}{
		{affine.Identity(), box(-3, 2, 7, 9), box(-3, 2, 7, 9)},
		{affine.Shift(10, -20), box(-3, 2, 7, 9), box(7, -18, 17, -11)},
		{place(2, 0, 0, 0, 2, 0, 1), box(0, 0, 2, 1), box(0, 0, 4, 2)},
		{place(3, 0, 0, 0, 3, 0, 2), box(1, 0, 5, 3), box(1, 0, 8, 5)},
		{place(-1, 0, 0, 0, 1, 0, 1), box(0, 0, 4, 2), box(-4, 0, 0, 2)},
		{place(1, 0, 0, 0, -1, 8, 1), box(0, 0, 4, 2), box(0, 6, 4, 8)},
		{place(0, -1, 10, 1, 0, 0, 1), box(0, 0, 4, 2), box(8, 0, 10, 4)},
		{place(1, 2, 0, 0, 1, 0, 1), box(0, 0, 4, 3), box(0, 0, 10, 3)},
		{place(1, 0, 0, -1, 1, 0, 1), box(0, 0, 4, 3), box(0, -4, 4, 3)},
		{place(3, 0, 0, 0, 3, 0, 1), box(1, -2, 2, -1), box(3, -6, 6, -3)},
		// Centres exactly on the least and the greatest coordinates count.
		{place(2, 0, 1, 0, 2, -1, 2), box(0, 0, 1, 1), box(0, -1, 2, 1)},
		{place(1, 0, 0, 0, 1, 0, 2), box(1, 1, 3, 3), box(0, 0, 2, 2)},
		{place(1, 0, 0, 0, 1, 0, 2), box(-3, -3, -1, -1), box(-2, -2, 0, 0)},
		{place(1, 0, 0, 0, 1, 0, 2), box(0, -1, 1, 0), box(0, -1, 1, 0)},
		// Coordinates that fall short of a centre by little, or go beyond it.
		{place(1, 0, 0, 0, 1, 0, 5), box(2, 2, 3, 3), box(0, 0, 1, 1)},
		{place(1, 0, 0, 0, 1, 0, 5), box(2, 3, 8, 8), box(0, 1, 2, 2)},
		{place(1, 0, 0, 0, 1, 0, 5), box(-8, -8, -7, -7), box(-2, -2, -1, -1)},
		{place(4096, 0, 2047, 0, 4096, 2049, 4096), box(0, 0, 1, 1), box(0, 1, 1, 2)},
		{place(4096, 0, -2047, 0, 4096, -2049, 4096), box(0, 0, 1, 1), box(0, -1, 1, 0)},
		// The image reaches beyond the canvas, on one side, or on all.
		{affine.Shift(65530, -65530), box(0, -10, 10, 10), box(65530, -65536, 65536, -65520)},
		{affine.Shift(-65530, 65530), box(-10, 0, 10, 10), box(-65536, 65530, -65520, 65536)},
		{place(4096, 0, 0, 0, 4096, 0, 1), box(-65536, -65536, 65536, 65536), box(-65536, -65536, 65536, 65536)},
		{place(4096, 0, 0, 0, 4096, 0, 1), box(-1, 0, 65536, 16), box(-4096, 0, 65536, 65536)},
		{affine.Identity(), box(-65536, -65536, 65536, 65536), box(-65536, -65536, 65536, 65536)},
		{affine.Shift(1<<17-1, 1-1<<17), box(-65536, -65536, 65536, 65536), box(65535, -65536, 65536, -65535)},
	} {
		if got, err := affine.Bounds(x.a, x.r); got != x.want || err != api.OK {
			t.Errorf("the bounds of %v under %v are %v with the error %d, not %v", x.r, x.a, got, err, x.want)
		}
	}
}

// P9.5: without a centre between the coordinates in one direction, or on the canvas, there are no pixels.
func TestBoundsWithoutPixels(t *testing.T) {
	for _, x := range []struct {
		a api.Affine
		r api.Rect
	}{
		{place(1, 0, 0, 0, 1, 0, 5), box(3, 3, 7, 7)},
		{place(1, 0, 0, 0, 1, 0, 5), box(-7, -7, -3, -3)},
		{place(1, 0, 0, 0, 1, 0, 5), box(3, 0, 7, 100)},
		{place(1, 0, 0, 0, 1, 0, 5), box(0, 3, 100, 7)},
		{place(1, 0, 0, 0, 1, 0, 4096), box(0, 0, 2047, 2047)},
		{place(1, 0, 0, 0, 1, 0, 4096), box(2049, 2049, 6143, 6143)},
		{place(4096, 0, 2049, 0, 1, 0, 4096), box(0, 0, 1, 1)},
		{affine.Shift(65536, 0), box(0, 0, 9, 9)},
		{affine.Shift(-65536, 0), box(-9, 0, 0, 9)},
		{affine.Shift(0, 65536), box(0, 0, 9, 9)},
		{affine.Shift(0, -65536), box(0, -9, 9, 0)},
		{affine.Shift(1<<17, 0), box(-65536, -65536, 65536, 65536)},
		{affine.Shift(0, -1<<17), box(-65536, -65536, 65536, 65536)},
		{affine.Shift(1<<28, 1<<28), box(-65536, -65536, 65536, 65536)},
		{affine.Shift(-1<<28, -1<<28), box(-65536, -65536, 65536, 65536)},
	} {
		if got, err := affine.Bounds(x.a, x.r); got != (api.Rect{}) || err != api.OK {
			t.Errorf("the bounds of %v under %v are %v with the error %d", x.r, x.a, got, err)
		}
	}
}

// expectBoth reports results of Need and Bounds other than the zero rectangle with this error.
func expectBoth(t *testing.T, a api.Affine, r api.Rect, want api.Errno) {
	t.Helper()
	if got, err := affine.Need(a, r); got != (api.Rect{}) || err != want {
		t.Errorf("%v needs under %v %v with the error %d", r, a, got, err)
	}
	if got, err := affine.Bounds(a, r); got != (api.Rect{}) || err != want {
		t.Errorf("the bounds of %v under %v are %v with the error %d", r, a, got, err)
	}
}

// P9.5: an empty rectangle has an empty image, even beyond the canvas; only an invalid placement is an error with it.
func TestEmptyRects(t *testing.T) {
	for _, r := range []api.Rect{
		{}, box(3, 3, 3, 3), box(3, 3, 3, 9), box(3, 3, 9, 3), box(9, 3, 3, 9), box(3, 9, 9, 3), box(9, 9, 3, 3), box(70000, 0, 70000, 5), box(-70000, 5, 70000, 5), box(65536, 65536, 65536, 65536), box(greatest, greatest, least, least), box(least, 0, greatest, 0),
	} {
		for _, a := range []api.Affine{affine.Identity(), affine.Shift(5, 6), place(-1, 0, 0, 0, 1, 0, 7), place(1, 1, 1<<28, -1, 1, 1<<28, 1)} {
			expectBoth(t, a, r, api.OK)
		}
		for _, a := range invalid() {
			expectBoth(t, a, r, api.ErrArg)
		}
	}
}

// P9.5: each side may be beyond the canvas, by one or by far.
func TestInvalidRects(t *testing.T) {
	for _, r := range []api.Rect{
		box(-65537, 0, 1, 1), box(0, -65537, 1, 1), box(0, 0, 65537, 1), box(0, 0, 1, 65537), box(65536, 0, 65537, 1), box(-65537, 0, -65536, 1), box(0, 0, 1<<20, 1), box(least, least, greatest, greatest), box(0, least, 1, greatest), box(greatest-1, 0, greatest, 1),
	} {
		for _, a := range append(invalid(), affine.Identity(), affine.Shift(-1000, -1000), place(1, 0, 0, 0, 1, 0, 4096)) {
			expectBoth(t, a, r, api.ErrArg)
		}
	}
}

// P9.5: a valid rectangle under a placement that is not valid.
func TestRectsUnderInvalidPlacements(t *testing.T) {
	for _, a := range invalid() {
		for _, r := range []api.Rect{box(0, 0, 1, 1), box(-3, 2, 7, 9), box(-65536, -65536, 65536, 65536)} {
			expectBoth(t, a, r, api.ErrArg)
		}
	}
}

// someRect returns a rectangle near the origin, or seldom one at an edge of the canvas.
func someRect(next func(int) int) api.Rect {
	x, y, width, height := next(40)-20, next(40)-20, 1+next(12), 1+next(12)
	switch next(8) {
	case 0:
		x = -65536
	case 1:
		x = 65536 - width
	case 2:
		y = -65536
	case 3:
		y = 65536 - height
	}
	return box(x, y, x+width, y+height)
}

// P9.5: the rectangles that follow from rational numbers.
func TestRectsOfSomePlacements(t *testing.T) {
	next := scatter(6)
	for range 4000 {
		a, r := somePlacement(next), someRect(next)
		if got, err := affine.Need(a, r); got != needOf(a, r) || err != api.OK {
			t.Errorf("%v needs under %v %v with the error %d, not %v", r, a, got, err, needOf(a, r))
		}
		if want := boundsIfSmall(a, r); want != nil {
			if got, err := affine.Bounds(a, r); got != *want || err != api.OK {
				t.Errorf("the bounds of %v under %v are %v with the error %d, not %v", r, a, got, err, *want)
			}
		}
	}
}

// boundsIfSmall returns what boundsOf does, or nothing if the image is too large to look at each column and row.
func boundsIfSmall(a api.Affine, r api.Rect) *api.Rect {
	width := max(a.A, -a.A)*(r.X1-r.X0) + max(a.B, -a.B)*(r.Y1-r.Y0)
	height := max(a.D, -a.D)*(r.X1-r.X0) + max(a.E, -a.E)*(r.Y1-r.Y0)
	if max(width, height) > 400*a.Den {
		return nil
	}
	want := boundsOf(a, r)
	return &want
}
