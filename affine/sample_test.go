package affine_test

import (
	"testing"

	"gouache/affine"
	"gouache/api"
)

// P9.4: the coordinates of the preimage are rounded down, negative ones too.
func TestSource(t *testing.T) {
	twice, half, turn := place(2, 0, 0, 0, 2, 0, 1), place(1, 0, 0, 0, 1, 0, 2), place(0, -1, 10, 1, 0, 0, 1)
	for _, x := range []struct {
		a    api.Affine
		p    api.Point
		want api.Point
	}{
		{twice, at(3, -1), at(1, -1)},
		{twice, at(2, -2), at(1, -1)},
		{twice, at(-3, -4), at(-2, -2)},
		{twice, at(0, 1), at(0, 0)},
		{affine.Identity(), at(7, -9), at(7, -9)},
		{affine.Shift(3, -4), at(7, -9), at(4, -5)},
		{turn, at(9, 4), at(4, 0)},
		{place(3, 0, 0, 0, 3, 0, 2), at(4, -1), at(3, -1)},
		{place(-1, 0, 0, 0, 1, 0, 1), at(0, 0), at(-1, 0)},
		{place(-1, 0, 0, 0, -1, 0, 1), at(-5, 7), at(4, -8)},
		// The centre of a pixel is mapped from a corner: these preimages are integers, which are not rounded.
		{half, at(0, 0), at(1, 1)},
		{half, at(-1, -2), at(-1, -3)},
		{place(-1, 0, 0, 0, -1, 0, 2), at(0, -1), at(-1, 1)},
		{place(1, 0, 1, 0, 1, -1, 2), at(0, 0), at(0, 2)},
		{place(1, 0, -1, 0, 1, 1, 2), at(-1, -1), at(0, -2)},
		{place(1, 1, 0, 1, -1, 0, 1), at(0, 0), at(0, 0)},
		{place(1, 1, 0, 1, -1, 0, 1), at(-1, 0), at(0, -1)},
		{place(1, 1, 0, -1, 1, 0, 2), at(3, 5), at(-2, 9)},
		// A preimage that is nearly an integer, on both sides.
		{place(4096, 0, 2047, 0, 4096, 2048, 4096), at(0, 0), at(0, 0)},
		{place(4096, 0, 2048, 0, 4096, 2049, 4096), at(0, 0), at(0, -1)},
		{place(4096, 0, -2047, 0, 4096, -2048, 4096), at(-1, -1), at(-1, 0)},
		// The preimage lies far away.
		{place(1, 0, -1<<28, 0, 1, 1<<28, 1), at(65535, -65536), at(65535+1<<28, -65536-1<<28)},
		{place(1, 0, 0, 0, 1, 0, 4096), at(65535, -65536), at(268433408, -268433408)},
		{place(1, 4096, 1<<28, 1, 4095, -1<<28, 4096), at(0, 0), at(2198754822144, -536870912)},
	} {
		if got, err := affine.Source(x.a, x.p); got != x.want || err != api.OK {
			t.Errorf("the source of %v under %v is %v with the error %d, not %v", x.p, x.a, got, err, x.want)
		}
	}
}

// P9.4: the first and the last pixels of the canvas, and those beside them.
func TestSourceAtTheEdges(t *testing.T) {
	for _, p := range []api.Point{at(-65536, 0), at(65535, 0), at(0, -65536), at(0, 65535), at(-65536, -65536), at(65535, 65535), at(65535, -65536)} {
		if got, err := affine.Source(affine.Identity(), p); got != p || err != api.OK {
			t.Errorf("the source of %v is %v with the error %d", p, got, err)
		}
	}
	for _, p := range []api.Point{at(-65537, 0), at(65536, 0), at(0, -65537), at(0, 65536), at(65536, 65536), at(least, 0), at(greatest, 0), at(0, least), at(0, greatest), at(1<<32, 0), at(0, 1<<32)} {
		// The pixel has to be on the canvas, wherever its source lies.
		for _, a := range []api.Affine{affine.Identity(), affine.Shift(1000, 1000), affine.Shift(-1000, -1000)} {
			if got, err := affine.Source(a, p); got != (api.Point{}) || err != api.ErrArg {
				t.Errorf("the source of %v is %v with the error %d", p, got, err)
			}
		}
	}
}

// P9.4: a placement that is not valid.
func TestSourceOfInvalidPlacements(t *testing.T) {
	for _, a := range invalid() {
		for _, p := range []api.Point{{}, at(5, 6), at(65536, 0), at(least, greatest)} {
			if got, err := affine.Source(a, p); got != (api.Point{}) || err != api.ErrArg {
				t.Errorf("the source of %v under %v is %v with the error %d", p, a, got, err)
			}
		}
	}
}

// P9.4: the preimage in rational numbers lies in the source, and it is mapped to the centre.
func TestSourceContainsThePreimage(t *testing.T) {
	next := scatter(4)
	for range 4000 {
		a := somePlacement(next)
		for _, p := range []api.Point{at(next(40)-20, next(40)-20), at(next(131072)-65536, next(131072)-65536)} {
			x, y := exactOf(a).preimage(centre(p.X), centre(p.Y))
			u, v := exactOf(a).at(x, y)
			if u.Cmp(centre(p.X)) != 0 || v.Cmp(centre(p.Y)) != 0 {
				t.Fatalf("the preimage of %v under %v is wrong", p, a)
			}
			if got, err := affine.Source(a, p); !contains(got.X, x) || !contains(got.Y, y) || err != api.OK {
				t.Errorf("the source of %v under %v is %v with the error %d, not that of (%v, %v)", p, a, got, err, x, y)
			}
		}
	}
}

// P9.4: equal maps have equal sources, be they in lowest terms or not.
func TestSourceUnderMultiples(t *testing.T) {
	next := scatter(5)
	for range 2000 {
		a, p := somePlacement(next), at(next(40)-20, next(40)-20)
		b := times(a, 2+next(5))
		if !isValid(b) {
			continue
		}
		want, _ := affine.Source(a, p)
		if got, err := affine.Source(b, p); got != want || err != api.OK {
			t.Errorf("the source of %v under %v is %v with the error %d, not %v", p, b, got, err, want)
		}
	}
}
