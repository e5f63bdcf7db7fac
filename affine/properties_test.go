package affine_test

import (
	"testing"

	"gouache/affine"
	"gouache/api"
	"gouache/rect"
)

// pixelsOf calls visit with each pixel of a small rectangle.
func pixelsOf(r api.Rect, visit func(p api.Point)) {
	for y := r.Y0; y < r.Y1; y++ {
		for x := r.X0; x < r.X1; x++ {
			visit(at(x, y))
		}
	}
}

// P9.6: what is needed for a rectangle contains the sources of all its pixels.
func TestNeedContainsAllSources(t *testing.T) {
	next := scatter(7)
	for range 4000 {
		a, r := somePlacement(next), someRect(next)
		need, err := affine.Need(a, r)
		pixelsOf(r, func(p api.Point) {
			if source, _ := affine.Source(a, p); err != api.OK || !rect.Has(need, source) {
				t.Errorf("%v needs under %v %v with the error %d, without the source %v of %v", r, a, need, err, source, p)
			}
		})
	}
}

// P9.6: the bounds of a rectangle contain every pixel of the canvas whose source lies in it.
func TestBoundsContainWhatComesFromTheRect(t *testing.T) {
	next := scatter(8)
	met := 0
	for range 4000 {
		a, r := somePlacement(next), someRect(next)
		if next(2) == 0 {
			// Around the source of a pixel there is something to be met, however far away it is.
			if p, _ := affine.Source(a, at(next(40)-20, next(40)-20)); isOnCanvas(p) {
				r = rect.Intersect(box(p.X-next(9), p.Y-next(9), p.X+1+next(9), p.Y+1+next(9)), box(-65536, -65536, 65536, 65536))
			}
		}
		bounds, err := affine.Bounds(a, r)
		pixelsOf(box(-24, -24, 24, 24), func(p api.Point) {
			source, _ := affine.Source(a, p)
			if !rect.Has(r, source) {
				return
			}
			met++
			if err != api.OK || !rect.Has(bounds, p) {
				t.Errorf("the bounds of %v under %v are %v with the error %d, without %v", r, a, bounds, err, p)
			}
		})
	}
	if met < 10000 {
		t.Errorf("only %d pixels came from the rectangles", met)
	}
}

// P9.6: at the edges of the canvas too, bounds contain every pixel whose source lies in the rectangle, and nothing beyond the canvas.
func TestBoundsAtTheEdges(t *testing.T) {
	next := scatter(9)
	met := 0
	for range 500 {
		linear := somePlacement(next)
		edge := box(65530, -65536, 65536, -65530)
		// The placement is shifted so that the pixel in the corner comes from near the origin.
		linear.C, linear.F = linear.Den*65535, -linear.Den*65536
		if !isValid(linear) {
			continue
		}
		r := box(-2-next(9), -2-next(9), 3+next(9), 3+next(9))
		bounds, err := affine.Bounds(linear, r)
		if err != api.OK || !rect.Inside(bounds, box(-65536, -65536, 65536, 65536)) {
			t.Errorf("the bounds of %v under %v are %v with the error %d", r, linear, bounds, err)
		}
		pixelsOf(edge, func(p api.Point) {
			if source, _ := affine.Source(linear, p); rect.Has(r, source) {
				met++
				if !rect.Has(bounds, p) {
					t.Errorf("the bounds of %v under %v are %v, without %v", r, linear, bounds, p)
				}
			}
		})
	}
	if met < 1000 {
		t.Errorf("only %d pixels came from the rectangles", met)
	}
}

// P9.6: a placement and its inverse undo each other, in both orders, for pixels as well.
func TestPlacementAndItsInverse(t *testing.T) {
	next := scatter(10)
	for range 3000 {
		a := somePlacement(next)
		inverse, err := affine.Inverse(a)
		if err != api.OK {
			continue
		}
		both, err := affine.Then(a, inverse)
		if !affine.Equal(both, affine.Identity()) || err != api.OK {
			t.Errorf("Then(%v, %v) is %v with the error %d", a, inverse, both, err)
		}
		expectIdentity(t, inverse, a)
		p := at(next(131072)-65536, next(131072)-65536)
		if got, err := affine.Source(both, p); got != p || err != api.OK {
			t.Errorf("the source of %v is %v with the error %d", p, got, err)
		}
	}
}

// P1, R5: all calls with arbitrary integers keep to their rules, and return the same again (R4).
func FuzzPlacementsFollowTheirRules(f *testing.F) {
	f.Add(1, 0, 0, 0, 1, 0, 1, 0, 0, 8, 8)
	f.Add(0, -1, 10, 1, 0, 0, 2, -9, 4, 9, 5)
	f.Add(-3, 2, 1<<28, 5, 4096, -1<<28, 4096, -65536, -65536, 65536, 65536)
	f.Add(2, 1, 0, 4, 2, 0, 3, 5, 5, 5, 5)
	f.Add(4097, 0, 0, 0, 1, 1<<28+1, 0, 65536, 0, 65537, 1)
	f.Add(least, greatest, least, greatest, least, greatest, least, least, least, greatest, greatest)
	f.Add(greatest, least, greatest, least, greatest, least, greatest, greatest, greatest, least, least)
	f.Fuzz(func(t *testing.T, a, b, c, d, e, f, den, x0, y0, x1, y1 int) {
		p, r := place(a, b, c, d, e, f, den), box(x0, y0, x1, y1)
		if affine.Valid(p) != isValid(p) {
			t.Fatalf("Valid(%v) is %v", p, affine.Valid(p))
		}
		shift := affine.Shift(x0, y0)
		expectRules(t, p, shift, r)
		if !isValid(p) {
			if affine.Reduce(p) != p {
				t.Errorf("Reduce(%v) is %v", p, affine.Reduce(p))
			}
			return
		}
		if want, _ := exactOf(p).placement(); affine.Reduce(p) != want || !affine.Equal(p, want) {
			t.Errorf("Reduce(%v) is %v, not %v", p, affine.Reduce(p), want)
		}
		if isValid(shift) {
			want, _ := exactOf(p).then(exactOf(shift)).placement()
			if got, _ := affine.Then(p, shift); got != want {
				t.Errorf("Then(%v, %v) is %v, not %v", p, shift, got, want)
			}
		}
		want, _ := exactOf(p).inverse().placement()
		if got, _ := affine.Inverse(p); got != want {
			t.Errorf("the inverse of %v is %v, not %v", p, got, want)
		}
		if at := at(x0, y0); isOnCanvas(at) {
			if got, _ := affine.Source(p, at); got != sourceOf(p, at) {
				t.Errorf("the source of %v under %v is %v, not %v", at, p, got, sourceOf(p, at))
			}
		}
	})
}

// result is what a call returns: a placement, a point or a rectangle, and an error.
type result struct {
	value any
	err   api.Errno
}

// resultOf returns the results of a call as one value.
func resultOf[T any](value T, err api.Errno) result {
	return result{value, err}
}

// expectRules reports a call with other errors than its contract says, with a value beside an error, or with another result when it is repeated.
func expectRules(t *testing.T, a, b api.Affine, r api.Rect) {
	t.Helper()
	calls := func() [6]result {
		return [6]result{
			resultOf(affine.Then(a, b)), resultOf(affine.Then(b, a)), resultOf(affine.Inverse(a)),
			resultOf(affine.Source(a, at(r.X0, r.Y0))), resultOf(affine.Need(a, r)), resultOf(affine.Bounds(a, r)),
		}
	}
	got := calls()
	if got != calls() {
		t.Errorf("the results for %v, %v and %v differ from call to call", a, b, r)
	}
	isRectAccepted := rect.Empty(r) || rect.Valid(r)
	isAccepted := [6]bool{
		isValid(a) && isValid(b), isValid(a) && isValid(b), isValid(a),
		isValid(a) && isOnCanvas(at(r.X0, r.Y0)), isValid(a) && isRectAccepted, isValid(a) && isRectAccepted,
	}
	for i, x := range got {
		if (x.err == api.ErrArg) == isAccepted[i] || x.err == api.ErrMany && i > 2 {
			t.Errorf("call %d has the error %d for %v, %v and %v", i, x.err, a, b, r)
		}
		if x.err != api.OK && x.value != [6]any{api.Affine{}, api.Affine{}, api.Affine{}, api.Point{}, api.Rect{}, api.Rect{}}[i] {
			t.Errorf("call %d returns %v with the error %d", i, x.value, x.err)
		}
	}
}

// P1: fields at the limits of the integers and of placements, one at a time and all together.
func TestArbitraryIntegers(t *testing.T) {
	numbers := []int{least, least + 1, -1 << 32, -1<<28 - 1, -4097, -1, 0, 1, 4097, 1<<28 + 1, 1 << 32, greatest - 1, greatest}
	for i := range 7 {
		for _, n := range numbers {
			f := fields(affine.Identity())
			f[i] = n
			a := place(f[0], f[1], f[2], f[3], f[4], f[5], f[6])
			for _, m := range numbers {
				expectRules(t, a, place(m, n, m, n, m, n, m), box(n, m, m, n))
				expectRules(t, place(n, n, n, m, m, m, n), a, box(m, m, n, n))
				affine.Reduce(a)
				affine.Equal(a, place(m, n, m, n, m, n, m))
			}
		}
	}
}
