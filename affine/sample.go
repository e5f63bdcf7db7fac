package affine

import (
	"gouache/api"
	"gouache/rect"
)

// canvas returns the rectangle of all pixels.
func canvas() api.Rect {
	return api.Rect{X0: -api.MaxCoord, Y0: -api.MaxCoord, X1: api.MaxCoord, Y1: api.MaxCoord}
}

// Source returns the pixel that contains the preimage of the centre of pixel p under a.
func Source(a api.Affine, p api.Point) (api.Point, api.Errno) {
	if !Valid(a) || !rect.Has(canvas(), p) {
		return api.Point{}, api.ErrArg
	}
	return source(a, p), api.OK
}

// source returns what Source does, for a valid placement and a pixel of the canvas.
func source(a api.Affine, p api.Point) api.Point {
	// The centre of p, without the shift of a, is (u, v) divided by 2 Den: this way it stays exact.
	u := a.Den*(2*p.X+1) - 2*a.C
	v := a.Den*(2*p.Y+1) - 2*a.F
	d := 2 * determinant(a)
	return api.Point{X: floor(a.E*u-a.B*v, d), Y: floor(a.A*v-a.D*u, d)}
}

// floor returns n / d rounded down. Both may be negative; d is not zero.
func floor(n, d int) int {
	quotient := n / d
	if n%d != 0 && (n < 0) != (d < 0) {
		quotient--
	}
	return quotient
}

// Need returns the smallest rectangle that contains the sources of the corner pixels of r, and with them those of all its pixels.
func Need(a api.Affine, r api.Rect) (api.Rect, api.Errno) {
	if err := check(a, r); err != api.OK || rect.Empty(r) {
		return api.Rect{}, err
	}
	last := api.Rect{X0: r.X0, Y0: r.Y0, X1: r.X1 - 1, Y1: r.Y1 - 1}
	low, high := extremes(corners(last), func(p api.Point) api.Point { return source(a, p) })
	return api.Rect{X0: low.X, Y0: low.Y, X1: high.X + 1, Y1: high.Y + 1}, api.OK
}

// Bounds returns the rectangle of the pixels of the canvas whose centres lie between the least and the greatest coordinates of the image of r.
func Bounds(a api.Affine, r api.Rect) (api.Rect, api.Errno) {
	if err := check(a, r); err != api.OK || rect.Empty(r) {
		return api.Rect{}, err
	}
	// The coordinates of the images are kept as numerators, all of them over Den.
	low, high := extremes(corners(r), func(p api.Point) api.Point {
		return api.Point{X: a.A*p.X + a.B*p.Y + a.C, Y: a.D*p.X + a.E*p.Y + a.F}
	})
	reached := api.Rect{
		X0: firstCentre(low.X, a.Den),
		Y0: firstCentre(low.Y, a.Den),
		X1: lastCentre(high.X, a.Den) + 1,
		Y1: lastCentre(high.Y, a.Den) + 1,
	}
	return rect.Intersect(reached, canvas()), api.OK
}

// check returns the error of Need and Bounds. An empty rectangle is accepted wherever it lies.
func check(a api.Affine, r api.Rect) api.Errno {
	if !Valid(a) || !rect.Empty(r) && !rect.Valid(r) {
		return api.ErrArg
	}
	return api.OK
}

// corners returns the four points at which two sides of r meet.
func corners(r api.Rect) [4]api.Point {
	return [...]api.Point{{X: r.X0, Y: r.Y0}, {X: r.X1, Y: r.Y0}, {X: r.X0, Y: r.Y1}, {X: r.X1, Y: r.Y1}}
}

// extremes returns the least and the greatest coordinates of the images of points.
func extremes(points [4]api.Point, image func(api.Point) api.Point) (low, high api.Point) {
	low = image(points[0])
	high = low
	for _, p := range points[1:] {
		q := image(p)
		low = api.Point{X: min(low.X, q.X), Y: min(low.Y, q.Y)}
		high = api.Point{X: max(high.X, q.X), Y: max(high.Y, q.Y)}
	}
	return low, high
}

// firstCentre returns the first of the pixels in a row whose centre is at or beyond n / den.
func firstCentre(n, den int) int {
	return -floor(den-2*n, 2*den)
}

// lastCentre returns the last of the pixels in a row whose centre is at or before n / den.
func lastCentre(n, den int) int {
	return floor(2*n-den, 2*den)
}
