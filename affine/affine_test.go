package affine_test

import (
	"testing"

	"gouache/affine"
	"gouache/api"
)

// P9.1: the limits of each field, from both sides.
func TestValidLimits(t *testing.T) {
	for _, x := range []struct {
		name  string
		field func(v int) api.Affine
		limit int
	}{
		{"A", func(v int) api.Affine { return place(v, 0, 0, 0, 1, 0, 1) }, 4096},
		{"B", func(v int) api.Affine { return place(1, v, 0, 0, 1, 0, 1) }, 4096},
		{"C", func(v int) api.Affine { return place(1, 0, v, 0, 1, 0, 1) }, 1 << 28},
		{"D", func(v int) api.Affine { return place(1, 0, 0, v, 1, 0, 1) }, 4096},
		{"E", func(v int) api.Affine { return place(1, 0, 0, 0, v, 0, 1) }, 4096},
		{"F", func(v int) api.Affine { return place(1, 0, 0, 0, 1, v, 1) }, 1 << 28},
	} {
		for _, v := range []int{-x.limit, -x.limit + 1, -1, 1, x.limit - 1, x.limit} {
			if !affine.Valid(x.field(v)) {
				t.Errorf("%s of %d is not valid", x.name, v)
			}
		}
		for _, v := range []int{least, least + 1, -1 << 32, -x.limit - 1, x.limit + 1, 1 << 32, greatest} {
			if affine.Valid(x.field(v)) {
				t.Errorf("%s of %d is valid", x.name, v)
			}
		}
	}
	for _, den := range []int{1, 2, 4095, 4096} {
		if !affine.Valid(place(1, 0, 0, 0, 1, 0, den)) {
			t.Errorf("a denominator of %d is not valid", den)
		}
	}
	for _, den := range []int{least, -4096, -1, 0, 4097, 1 << 32, greatest} {
		if affine.Valid(place(1, 0, 0, 0, 1, 0, den)) {
			t.Errorf("a denominator of %d is valid", den)
		}
	}
}

// P9.1: the determinant must not be 0, whatever the other fields are; it may be negative.
func TestValidDeterminant(t *testing.T) {
	for _, a := range []api.Affine{
		{}, place(0, 0, 0, 0, 0, 0, 1), place(1, 0, 5, 0, 0, 6, 1), place(0, 1, 5, 0, 0, 6, 1), place(0, 0, 5, 1, 0, 6, 1), place(0, 0, 5, 0, 1, 6, 1),
		place(1, 1, 0, 1, 1, 0, 1), place(2, 1, 0, 4, 2, 0, 3), place(-2, 3, 7, 2, -3, 7, 3), place(4096, -4096, 0, -4096, 4096, 0, 4096), place(1, 0, 0, 1, 0, 0, 1), place(0, 7, 0, 0, -7, 0, 1),
	} {
		if affine.Valid(a) {
			t.Errorf("%v is valid", a)
		}
	}
	for _, a := range []api.Affine{
		place(0, 1, 5, 1, 0, 6, 1), place(0, -1, 5, 1, 0, 6, 1), place(-1, 0, 0, 0, -1, 0, 1), place(-1, 0, 0, 0, 1, 0, 1), place(1, 2, 0, 3, 4, 0, 4096),
		place(4096, 4096, 1<<28, -4096, 4096, -1<<28, 4096), place(4096, 4095, 0, 4096, 4096, 0, 1), place(4096, 4095, 0, 4095, 4094, 0, 1), place(1, 1, 0, -1, 1, 0, 1),
	} {
		if !affine.Valid(a) {
			t.Errorf("%v is not valid", a)
		}
	}
}

// P9.1: all small fields.
func TestValidOfSmallFields(t *testing.T) {
	for n := range 5 * 5 * 5 * 5 * 3 {
		a := place(n%5-2, n/5%5-2, 0, n/25%5-2, n/125%5-2, 0, n/625)
		if got := affine.Valid(a); got != isValid(a) {
			t.Errorf("Valid(%v) is %v", a, got)
		}
	}
}

// P9.1: the fields of the identity and of shifts; a shift has any integers.
func TestIdentityAndShift(t *testing.T) {
	if got := affine.Identity(); got != place(1, 0, 0, 0, 1, 0, 1) {
		t.Errorf("the identity is %v", got)
	}
	for _, p := range []api.Point{{}, at(1, 2), at(-3, 0), at(0, -4), at(1<<28, -1<<28), at(1<<28+1, 0), at(least, greatest)} {
		if got := affine.Shift(p.X, p.Y); got != place(1, 0, p.X, 0, 1, p.Y, 1) {
			t.Errorf("the shift by %v is %v", p, got)
		}
	}
}

// P9.1: all seven fields are divided by what divides them all, of either sign and with fields of 0.
func TestReduce(t *testing.T) {
	for _, x := range []struct{ a, want api.Affine }{
		{place(2, 0, 0, 0, 2, 0, 2), affine.Identity()},
		{place(4, 0, 0, 0, 6, 0, 2), place(2, 0, 0, 0, 3, 0, 1)},
		{place(12, 18, 24, -30, 36, -42, 48), place(2, 3, 4, -5, 6, -7, 8)},
		{place(-2, 0, -2, 0, -2, -2, 2), place(-1, 0, -1, 0, -1, -1, 1)},
		{place(0, -3, 0, 9, 0, 0, 3), place(0, -1, 0, 3, 0, 0, 1)},
		{place(4096, 0, 1<<28, 0, 4096, -1<<28, 4096), place(1, 0, 65536, 0, 1, -65536, 1)},
		{place(4095, 0, 0, 0, 4095, 0, 4095), affine.Identity()},
		{place(30, 0, 0, 0, 42, 0, 70), place(15, 0, 0, 0, 21, 0, 35)},
		{place(6, 10, 15, 0, 6, 0, 30), place(6, 10, 15, 0, 6, 0, 30)},
		{affine.Shift(4, 6), affine.Shift(4, 6)},
	} {
		if got := affine.Reduce(x.a); got != x.want {
			t.Errorf("Reduce(%v) is %v, not %v", x.a, got, x.want)
		}
	}
	// One field that has no divisor in common with the others keeps them all.
	for i := range 7 {
		f := [7]int{6, 12, 18, 24, 30, 36, 42}
		f[i]++
		a := place(f[0], f[1], f[2], f[3], f[4], f[5], f[6])
		if got := affine.Reduce(a); !isValid(a) || got != a {
			t.Errorf("Reduce(%v) is %v", a, got)
		}
	}
}

// P9.1: a placement that is not valid stays as it is, even if its lowest terms would be valid.
func TestReduceOfInvalidPlacements(t *testing.T) {
	for _, a := range []api.Affine{
		{}, place(2, 0, 0, 0, 2, 0, 0), place(-2, 0, 0, 0, -2, 0, -2), place(8192, 0, 0, 0, 8192, 0, 8192), place(4098, 0, 0, 0, 2, 0, 2), place(2, 0, 1<<29, 0, 2, 0, 2),
		place(2, 2, 2, 2, 2, 2, 2), place(4, 0, 0, 8, 0, 0, 4), place(0, 0, 0, 0, 0, 0, 5), place(least, least, least, least, least, least, least), place(greatest, 0, 0, 0, greatest, 0, greatest),
	} {
		if got := affine.Reduce(a); got != a {
			t.Errorf("Reduce(%v) is %v", a, got)
		}
	}
}

// P9.1: lowest terms are the same for all multiples, and they are the same map.
func TestReduceOfMultiples(t *testing.T) {
	next := scatter(1)
	for range 3000 {
		a := somePlacement(next)
		want, _ := exactOf(a).placement()
		if got := affine.Reduce(a); got != want || !affine.Equal(got, a) {
			t.Errorf("Reduce(%v) is %v, not %v", a, got, want)
		}
		multiple := times(a, 1+next(60))
		if !isValid(multiple) {
			want = multiple
		}
		if got := affine.Reduce(multiple); got != want {
			t.Errorf("Reduce(%v) is %v, not %v", multiple, got, want)
		}
	}
}

// P9.1: a placement equals its multiples, those by negative numbers too; a change of any field of A to F makes it another map.
func TestEqual(t *testing.T) {
	a := place(2, 3, 5, 7, 11, 13, 17)
	for _, n := range []int{1, 2, 3, 100, 4096, -1, -6} {
		if b := times(a, n); !affine.Equal(a, b) || !affine.Equal(b, a) {
			t.Errorf("%v does not equal %v", a, b)
		}
		for i := range 6 {
			f := fields(times(a, n))
			f[i]++
			if b := place(f[0], f[1], f[2], f[3], f[4], f[5], f[6]); affine.Equal(a, b) || affine.Equal(b, a) {
				t.Errorf("%v equals %v", a, b)
			}
		}
	}
	if b := place(2, 3, 5, 7, 11, 13, 18); affine.Equal(a, b) {
		t.Errorf("%v equals %v", a, b)
	}
	for _, x := range []struct {
		a, b api.Affine
		want bool
	}{
		{affine.Identity(), place(2, 0, 0, 0, 2, 0, 2), true},
		{place(0, 0, 0, 0, 0, 0, 3), place(0, 0, 0, 0, 0, 0, 5), true},
		{place(1, 0, 0, 0, 1, 0, 2), place(2, 0, 0, 0, 2, 0, 3), false},
		{affine.Shift(1, 2), affine.Shift(1, 2), true},
		{affine.Shift(1, 2), affine.Shift(2, 1), false},
		{affine.Identity(), place(-1, 0, 0, 0, -1, 0, 1), false},
		{place(-3, 0, 1, 0, 3, 0, 1), place(3, 0, -1, 0, -3, 0, -1), true},
		// The definition also holds for placements that are not valid, such as with a denominator of 0.
		{api.Affine{}, api.Affine{}, true},
		{api.Affine{}, affine.Identity(), true},
		{place(1, 2, 3, 4, 5, 6, 0), place(6, 5, 4, 3, 2, 1, 0), true},
		{place(1, 0, 0, 0, 1, 0, 0), affine.Identity(), false},
		{place(4097, 0, 0, 0, 4097, 0, 4097), affine.Identity(), true},
		// Products wrap around.
		{place(1<<62, 0, 0, 0, 0, 0, 4), place(0, 0, 0, 0, 0, 0, 4), true},
		{place(1<<62, 0, 0, 0, 0, 0, 4), place(0, 0, 0, 0, 0, 0, 2), false},
		{place(0, 1<<32, 0, 0, 0, 1<<32, 1<<32), place(0, 1<<32, 0, 0, 0, 0, 1<<32), true},
		{place(least, 0, 0, 0, 0, 0, 1), place(0, 0, 0, 0, 0, 0, 2), true},
		{place(greatest, 0, 0, 0, 0, 0, 1), place(-2, 0, 0, 0, 0, 0, 2), true},
	} {
		if got := affine.Equal(x.a, x.b); got != x.want || affine.Equal(x.b, x.a) != x.want {
			t.Errorf("Equal(%v, %v) is %v", x.a, x.b, got)
		}
	}
}
