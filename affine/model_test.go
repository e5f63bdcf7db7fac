package affine_test

import (
	"math"
	"math/big"

	"gouache/api"
)

const (
	least    = math.MinInt
	greatest = math.MaxInt
)

// box returns the rectangle with these fields.
func box(x0, y0, x1, y1 int) api.Rect {
	return api.Rect{X0: x0, Y0: y0, X1: x1, Y1: y1}
}

// at returns the point with these coordinates.
func at(x, y int) api.Point {
	return api.Point{X: x, Y: y}
}

// place returns the placement with these fields.
func place(a, b, c, d, e, f, den int) api.Affine {
	return api.Affine{A: a, B: b, C: c, D: d, E: e, F: f, Den: den}
}

// fields returns the fields of a placement, the denominator last.
func fields(a api.Affine) [7]int {
	return [7]int{a.A, a.B, a.C, a.D, a.E, a.F, a.Den}
}

// times returns a placement with all seven fields multiplied.
func times(a api.Affine, n int) api.Affine {
	return place(n*a.A, n*a.B, n*a.C, n*a.D, n*a.E, n*a.F, n*a.Den)
}

// isValid reports whether a placement is valid, as the chapter says it, with integers that do not wrap around.
func isValid(a api.Affine) bool {
	limits := [7]int{4096, 4096, 1 << 28, 4096, 4096, 1 << 28, 4096}
	for i, v := range fields(a) {
		if new(big.Int).Abs(whole(v)).Cmp(whole(limits[i])) > 0 {
			return false
		}
	}
	ae, bd := new(big.Int).Mul(whole(a.A), whole(a.E)), new(big.Int).Mul(whole(a.B), whole(a.D))
	return a.Den > 0 && ae.Cmp(bd) != 0
}

// isOnCanvas reports whether a pixel is one of the canvas.
func isOnCanvas(p api.Point) bool {
	return -65536 <= p.X && p.X <= 65535 && -65536 <= p.Y && p.Y <= 65535
}

// whole returns an integer that can be arbitrarily large.
func whole(n int) *big.Int {
	return big.NewInt(int64(n))
}

// ratio returns the rational number n / den.
func ratio(n, den int) *big.Rat {
	return big.NewRat(int64(n), int64(den))
}

// centre returns the coordinate of the centre of the pixels in column or row n.
func centre(n int) *big.Rat {
	return ratio(2*n+1, 2)
}

// exact is the map of (x, y) to (m[0] x + m[1] y + m[2], m[3] x + m[4] y + m[5]).
type exact [6]*big.Rat

// exactOf returns the map of a placement.
func exactOf(a api.Affine) exact {
	return exact{ratio(a.A, a.Den), ratio(a.B, a.Den), ratio(a.C, a.Den), ratio(a.D, a.Den), ratio(a.E, a.Den), ratio(a.F, a.Den)}
}

// at returns the image of a point.
func (m exact) at(x, y *big.Rat) (u, v *big.Rat) {
	return sum(product(m[0], x), product(m[1], y), m[2]), sum(product(m[3], x), product(m[4], y), m[5])
}

// then returns the map that applies m first. It is known from where it maps three points.
func (m exact) then(next exact) exact {
	both := func(x, y *big.Rat) (u, v *big.Rat) { return next.at(m.at(x, y)) }
	zero, one := ratio(0, 1), ratio(1, 1)
	c, f := both(zero, zero)
	ac, df := both(one, zero)
	bc, ef := both(zero, one)
	return exact{minus(ac, c), minus(bc, c), c, minus(df, f), minus(ef, f), f}
}

// preimage returns the point that is mapped to (u, v), by Cramer's rule.
func (m exact) preimage(u, v *big.Rat) (x, y *big.Rat) {
	d := minus(product(m[0], m[4]), product(m[1], m[3]))
	u, v = minus(u, m[2]), minus(v, m[5])
	x = minus(product(u, m[4]), product(m[1], v))
	y = minus(product(m[0], v), product(u, m[3]))
	return x.Quo(x, d), y.Quo(y, d)
}

// inverse returns the map that undoes m, from the preimages of three points.
func (m exact) inverse() exact {
	zero, one := ratio(0, 1), ratio(1, 1)
	c, f := m.preimage(zero, zero)
	ac, df := m.preimage(one, zero)
	bc, ef := m.preimage(zero, one)
	return exact{minus(ac, c), minus(bc, c), c, minus(df, f), minus(ef, f), f}
}

// placement returns the only placement in lowest terms that is this map. It is false if this is not a valid one.
func (m exact) placement() (api.Affine, bool) {
	den := whole(1)
	for _, q := range m {
		common := new(big.Int).GCD(nil, nil, den, q.Denom())
		den.Mul(den, q.Denom()).Quo(den, common)
	}
	var got [7]int
	for i, q := range m {
		numerator := new(big.Int).Mul(q.Num(), den)
		numerator.Quo(numerator, q.Denom())
		if !numerator.IsInt64() {
			return api.Affine{}, false
		}
		got[i] = int(numerator.Int64())
	}
	got[6] = int(den.Int64())
	a := place(got[0], got[1], got[2], got[3], got[4], got[5], got[6])
	if !den.IsInt64() || !isValid(a) {
		return api.Affine{}, false
	}
	return a, true
}

func sum(terms ...*big.Rat) *big.Rat {
	total := new(big.Rat)
	for _, q := range terms {
		total.Add(total, q)
	}
	return total
}

func product(a, b *big.Rat) *big.Rat {
	return new(big.Rat).Mul(a, b)
}

func minus(a, b *big.Rat) *big.Rat {
	return new(big.Rat).Sub(a, b)
}

// contains reports whether the pixels in column or row n begin at or before q, and end beyond it.
func contains(n int, q *big.Rat) bool {
	return ratio(n, 1).Cmp(q) <= 0 && q.Cmp(ratio(n+1, 1)) < 0
}

// floorOf returns the greatest integer that is at most q.
func floorOf(q *big.Rat) int {
	return int(new(big.Int).Div(q.Num(), q.Denom()).Int64())
}

// sourceOf returns the pixel that contains the preimage of the centre of p.
func sourceOf(a api.Affine, p api.Point) api.Point {
	x, y := exactOf(a).preimage(centre(p.X), centre(p.Y))
	return at(floorOf(x), floorOf(y))
}

// scatter returns a generator of numbers from 0 to n-1, the same ones for the same seed.
func scatter(seed int) func(n int) int {
	state := uint64(seed)*0x9E3779B97F4A7C15 + 1
	return func(n int) int {
		state = state*6364136223846793005 + 1442695040888963407
		return int(state >> 33 % uint64(n))
	}
}

// somePlacement returns a valid placement: one of small fractions, of large ones, a turned or mirrored shift, a shear, or one of fields up to the limits.
func somePlacement(next func(int) int) api.Affine {
	upTo := func(limit int) int { return next(2*limit+1) - limit }
	for {
		var a api.Affine
		switch next(5) {
		case 0:
			a = place(upTo(4), upTo(4), upTo(20), upTo(4), upTo(4), upTo(20), 1+next(4))
		case 1:
			a = place(upTo(60), upTo(60), upTo(4000), upTo(60), upTo(60), upTo(4000), 1+next(60))
		case 2:
			a = place(upTo(1), upTo(1), upTo(50), upTo(1), upTo(1), upTo(50), 1)
		case 3:
			a = place(1, upTo(3), upTo(9), 0, 1, upTo(9), 1+next(2))
		default:
			a = place(upTo(4096), upTo(4096), upTo(1<<28), upTo(4096), upTo(4096), upTo(1<<28), 1+next(4096))
		}
		if isValid(a) {
			return a
		}
	}
}
