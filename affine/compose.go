package affine

import "gouache/api"

// Then returns the placement that applies a first and b second.
func Then(a, b api.Affine) (api.Affine, api.Errno) {
	if !Valid(a) || !Valid(b) {
		return api.Affine{}, api.ErrArg
	}
	return lowestIfValid(api.Affine{
		A:   b.A*a.A + b.B*a.D,
		B:   b.A*a.B + b.B*a.E,
		C:   b.A*a.C + b.B*a.F + b.C*a.Den,
		D:   b.D*a.A + b.E*a.D,
		E:   b.D*a.B + b.E*a.E,
		F:   b.D*a.C + b.E*a.F + b.F*a.Den,
		Den: a.Den * b.Den,
	})
}

// Inverse returns the placement that undoes a.
func Inverse(a api.Affine) (api.Affine, api.Errno) {
	if !Valid(a) {
		return api.Affine{}, api.ErrArg
	}
	// The sign of the determinant is multiplied into all fields, so that the denominator is positive.
	sign := 1
	if determinant(a) < 0 {
		sign = -1
	}
	return lowestIfValid(api.Affine{
		A:   sign * a.Den * a.E,
		B:   -sign * a.Den * a.B,
		C:   sign * (a.B*a.F - a.E*a.C),
		D:   -sign * a.Den * a.D,
		E:   sign * a.Den * a.A,
		F:   sign * (a.D*a.C - a.A*a.F),
		Den: sign * determinant(a),
	})
}

// lowestIfValid returns a placement in lowest terms, or ErrMany if it is not valid even then.
func lowestIfValid(a api.Affine) (api.Affine, api.Errno) {
	reduced := lowest(a)
	if !Valid(reduced) {
		return api.Affine{}, api.ErrMany
	}
	return reduced, api.OK
}
