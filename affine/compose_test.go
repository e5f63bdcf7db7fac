package affine_test

import (
	"testing"

	"gouache/affine"
	"gouache/api"
)

// invalid returns placements that are not valid, each for another reason.
func invalid() []api.Affine {
	return []api.Affine{
		{}, place(1, 0, 0, 0, 1, 0, 0), place(1, 0, 0, 0, 1, 0, -1), place(1, 0, 0, 0, 1, 0, 4097), place(1, 1, 0, 1, 1, 0, 1), place(4097, 0, 0, 0, 1, 0, 1), place(1, -4097, 0, 0, 1, 0, 1), place(1, 0, 0, 4097, 1, 0, 1),
		place(1, 0, 0, 0, -4097, 0, 1), affine.Shift(1<<28+1, 0), affine.Shift(0, -1<<28-1), affine.Shift(least, greatest), place(least, least, least, least, least, least, least), place(greatest, 0, 0, 0, greatest, 0, greatest),
	}
}

// P9.2: the first one is applied first, and the result is in lowest terms.
func TestThen(t *testing.T) {
	turn, scale, shear := place(0, -1, 10, 1, 0, 0, 1), place(3, 0, 0, 0, 3, 0, 2), place(1, 2, 0, 0, 1, 0, 1)
	for _, x := range []struct{ a, b, want api.Affine }{
		{affine.Shift(1, 2), affine.Shift(3, 4), affine.Shift(4, 6)},
		{turn, scale, place(0, -3, 30, 3, 0, 0, 2)},
		{scale, turn, place(0, -3, 20, 3, 0, 0, 2)},
		{affine.Shift(1, 2), scale, place(3, 0, 3, 0, 3, 6, 2)},
		{scale, affine.Shift(1, 2), place(3, 0, 2, 0, 3, 4, 2)},
		{shear, turn, place(0, -1, 10, 1, 2, 0, 1)},
		{turn, shear, place(2, -1, 10, 1, 0, 0, 1)},
		{place(2, 3, 5, 7, 11, 13, 17), place(1, 2, 3, 4, 5, 6, 1), place(16, 25, 82, 43, 67, 187, 17)},
		{scale, place(2, 0, 0, 0, 2, 0, 3), affine.Identity()},
		{affine.Identity(), place(4, 0, 2, 0, 4, 2, 2), place(2, 0, 1, 0, 2, 1, 1)},
		{place(4, 0, 2, 0, 4, 2, 2), affine.Identity(), place(2, 0, 1, 0, 2, 1, 1)},
		{turn, turn, place(-1, 0, 10, 0, -1, 10, 1)},
	} {
		got, err := affine.Then(x.a, x.b)
		if got != x.want || err != api.OK {
			t.Errorf("Then(%v, %v) is %v with the error %d, not %v", x.a, x.b, got, err, x.want)
		}
	}
}

// P9.2: products beyond the limits are valid if the lowest terms are, up to the limits themselves.
func TestThenNeedsLowestTerms(t *testing.T) {
	for _, x := range []struct{ a, b, want api.Affine }{
		{place(4096, 0, 0, 0, 4096, 0, 3), place(3, 0, 0, 0, 3, 0, 4096), affine.Identity()},
		{place(4095, 0, 0, 0, 4095, 0, 4096), place(4096, 0, 0, 0, 4096, 0, 4095), affine.Identity()},
		{place(64, 0, 0, 0, 64, 0, 1), place(64, 0, 0, 0, 64, 0, 1), place(4096, 0, 0, 0, 4096, 0, 1)},
		{place(1, 0, 0, 0, 1, 0, 64), place(1, 0, 0, 0, -1, 0, 64), place(1, 0, 0, 0, -1, 0, 4096)},
		{place(1, 4095, 0, 0, 1, 0, 1), place(1, 1, 0, 0, 1, 0, 1), place(1, 4096, 0, 0, 1, 0, 1)},
		{place(1, 0, 0, -4095, 1, 0, 1), place(1, 0, 0, -1, 1, 0, 1), place(1, 0, 0, -4096, 1, 0, 1)},
		{affine.Shift(1<<27, -1<<27), affine.Shift(1<<27, -1<<27), affine.Shift(1<<28, -1<<28)},
		{place(2048, 0, 1<<28, 0, 2048, 1<<28, 1), place(1, 0, 0, 0, 1, 0, 2048), place(1, 0, 1<<17, 0, 1, 1<<17, 1)},
		{place(4096, 4096, 1<<28, -4096, 4096, -1<<28, 4096), place(4096, -4096, 1<<28, 4096, 4096, -1<<28, 4096), place(2, 0, 3<<16, 0, 2, -1<<16, 1)},
	} {
		got, err := affine.Then(x.a, x.b)
		if got != x.want || err != api.OK {
			t.Errorf("Then(%v, %v) is %v with the error %d, not %v", x.a, x.b, got, err, x.want)
		}
	}
}

// P9.2: each field may lead beyond its limit.
func TestThenBeyondTheLimits(t *testing.T) {
	for _, x := range [][2]api.Affine{
		{place(4096, 0, 0, 0, 1, 0, 1), place(2, 0, 0, 0, 1, 0, 1)},
		{place(1, 0, 0, 0, 4096, 0, 1), place(1, 0, 0, 0, -2, 0, 1)},
		{place(1, 4096, 0, 0, 1, 0, 1), place(1, 1, 0, 0, 1, 0, 1)},
		{place(1, 0, 0, -4096, 1, 0, 1), place(1, 0, 0, -1, 1, 0, 1)},
		{affine.Shift(1<<28, 0), affine.Shift(1, 0)},
		{affine.Shift(0, -1<<28), affine.Shift(0, -1)},
		{affine.Shift(1<<28, 0), place(4096, 0, 0, 0, 4096, 0, 4095)},
		{place(1, 0, 0, 0, 1, 0, 4096), place(1, 0, 0, 0, 1, 0, 3)},
		{place(1, 0, 1, 0, 1, 0, 4096), place(4096, 0, 0, 0, 4095, 0, 4095)},
		{place(4096, 0, 0, 0, 4096, 0, 4095), place(4095, 0, 0, 0, 4096, 0, 4093)},
	} {
		got, err := affine.Then(x[0], x[1])
		if got != (api.Affine{}) || err != api.ErrMany {
			t.Errorf("Then(%v, %v) is %v with the error %d", x[0], x[1], got, err)
		}
	}
}

// P9.2: neither side may be invalid, even if the composition would be valid.
func TestThenOfInvalidPlacements(t *testing.T) {
	for _, a := range invalid() {
		for _, b := range append(invalid(), affine.Identity(), affine.Shift(1<<28, 1<<28), place(1, 0, 0, 0, 1, 0, 4096)) {
			if got, err := affine.Then(a, b); got != (api.Affine{}) || err != api.ErrArg {
				t.Errorf("Then(%v, %v) is %v with the error %d", a, b, got, err)
			}
			if got, err := affine.Then(b, a); got != (api.Affine{}) || err != api.ErrArg {
				t.Errorf("Then(%v, %v) is %v with the error %d", b, a, got, err)
			}
		}
	}
}

// P9.2: the composition of the maps with rational numbers.
func TestThenComposesTheMaps(t *testing.T) {
	next := scatter(2)
	var counts [3]int
	for range 6000 {
		a, b := somePlacement(next), somePlacement(next)
		if next(4) == 0 {
			// A map close to the one that undoes a brings the products back within the limits.
			if undo, err := affine.Inverse(a); err == api.OK {
				b = undo
				b.C = b.C / 2
			}
		}
		want, ok := exactOf(a).then(exactOf(b)).placement()
		wantErr := api.OK
		if !ok {
			wantErr = api.ErrMany
		}
		counts[wantErr]++
		if got, err := affine.Then(a, b); got != want || err != wantErr {
			t.Errorf("Then(%v, %v) is %v with the error %d, not %v", a, b, got, err, want)
		}
	}
	if counts[api.OK] < 500 || counts[api.ErrMany] < 500 {
		t.Errorf("the results are %v", counts)
	}
}

// P9.3: a positive and a negative determinant, in lowest terms.
func TestInverse(t *testing.T) {
	for _, x := range []struct{ a, want api.Affine }{
		{place(2, 0, 0, 0, 2, 0, 1), place(1, 0, 0, 0, 1, 0, 2)},
		{affine.Identity(), affine.Identity()},
		{affine.Shift(3, -4), affine.Shift(-3, 4)},
		{affine.Shift(1<<28, -1<<28), affine.Shift(-1<<28, 1<<28)},
		{place(0, -3, 30, 3, 0, 0, 2), place(0, 2, 0, -2, 0, 30, 3)},
		{place(-1, 0, 8, 0, 1, 0, 1), place(-1, 0, 8, 0, 1, 0, 1)},
		{place(0, 1, 5, 1, 0, 7, 1), place(0, 1, -7, 1, 0, -5, 1)},
		{place(1, 2, 0, 0, 1, 0, 1), place(1, -2, 0, 0, 1, 0, 1)},
		{place(1, 2, 5, 3, 4, 6, 7), place(-28, 14, 8, 21, -7, -9, 2)},
		{place(3, 0, 1, 0, 3, 2, 2), place(2, 0, -1, 0, 2, -2, 3)},
		{place(2, 0, 4, 0, 2, 6, 2), affine.Shift(-2, -3)},
		{place(4096, 0, 0, 0, -4096, 0, 1), place(1, 0, 0, 0, -1, 0, 4096)},
		{place(1, 0, 0, 0, -1, 0, 4096), place(4096, 0, 0, 0, -4096, 0, 1)},
		{place(4096, 4096, 0, -4096, 4096, 0, 4096), place(1, -1, 0, 1, 1, 0, 2)},
	} {
		got, err := affine.Inverse(x.a)
		if got != x.want || err != api.OK {
			t.Errorf("the inverse of %v is %v with the error %d, not %v", x.a, got, err, x.want)
		}
	}
}

// P9.3: an inverse beyond the limits, for the denominator, the coefficients, or the shift.
func TestInverseBeyondTheLimits(t *testing.T) {
	for _, a := range []api.Affine{
		place(4096, 0, 0, 0, 4095, 0, 4093), place(64, 1, 0, 0, 65, 0, 1), place(1, 4095, 0, 4095, 1, 0, 1), place(1, 0, 1, 0, 4096, 1, 4096),
		place(1, 2, 1<<28, 0, 1, -1<<28, 1), place(1, 0, 1<<28, 2, 1, -1<<28, 1), place(4096, 1, 0, 0, 4096, 0, 1), place(1, 1, 0, 0, 4096, 0, 4095), place(-4096, 0, 0, 0, 4095, 0, 4093),
	} {
		if got, err := affine.Inverse(a); got != (api.Affine{}) || err != api.ErrMany {
			t.Errorf("the inverse of %v is %v with the error %d", a, got, err)
		}
	}
}

// P9.3: a placement that is not valid.
func TestInverseOfInvalidPlacements(t *testing.T) {
	for _, a := range invalid() {
		if got, err := affine.Inverse(a); got != (api.Affine{}) || err != api.ErrArg {
			t.Errorf("the inverse of %v is %v with the error %d", a, got, err)
		}
	}
}

// P9.3: the inverse of the map with rational numbers, which undoes and is undone by the placement.
func TestInverseInvertsTheMap(t *testing.T) {
	next := scatter(3)
	var counts [3]int
	for range 6000 {
		a := somePlacement(next)
		want, ok := exactOf(a).inverse().placement()
		wantErr := api.OK
		if !ok {
			wantErr = api.ErrMany
		}
		counts[wantErr]++
		got, err := affine.Inverse(a)
		if got != want || err != wantErr {
			t.Errorf("the inverse of %v is %v with the error %d, not %v", a, got, err, want)
		}
		if err == api.OK {
			expectIdentity(t, a, got)
			expectIdentity(t, got, a)
			if back, err := affine.Inverse(got); back != affine.Reduce(a) || err != api.OK {
				t.Errorf("the inverse of the inverse of %v is %v with the error %d", a, back, err)
			}
		}
	}
	if counts[api.OK] < 500 || counts[api.ErrMany] < 500 {
		t.Errorf("the results are %v", counts)
	}
}

// expectIdentity reports two placements that do not undo each other (P9.6).
func expectIdentity(t *testing.T, a, b api.Affine) {
	t.Helper()
	if got, err := affine.Then(a, b); got != affine.Identity() || err != api.OK {
		t.Errorf("Then(%v, %v) is %v with the error %d", a, b, got, err)
	}
}
