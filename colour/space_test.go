package colour_test

import (
	"testing"

	"gouache/api"
	"gouache/colour"
	"gouache/curve"
)

// identity is the matrix that changes nothing.
var identity = [9]int{4096, 0, 0, 0, 4096, 0, 0, 0, 4096}

// entry is an entry of a matrix.
type entry struct{ row, column, value int }

// with returns a matrix with other entries.
func with(m [9]int, entries ...entry) [9]int {
	for _, e := range entries {
		m[3*e.row+e.column] = e.value
	}
	return m
}

// diagonal returns a matrix that multiplies each channel by itself.
func diagonal(r, g, b int) [9]int {
	return [9]int{r, 0, 0, 0, g, 0, 0, 0, b}
}

// spaceOf returns a space with straight curves.
func spaceOf(to, from [9]int) api.Space {
	return api.Space{Curve: [3]api.Curve{{0, 65535}, {0, 65535}, {0, 65535}}, To: to, From: from}
}

// curved returns the space whose matrices change nothing, with these curves.
func curved(r, g, b api.Curve) api.Space {
	return api.Space{Curve: [3]api.Curve{r, g, b}, To: identity, From: identity}
}

// quadratic returns a space that exchanges two channels, with quadratic curves.
func quadratic() api.Space {
	exchange := [9]int{0, 4096, 0, 4096, 0, 0, 0, 0, 4096}
	s := spaceOf(exchange, exchange)
	for i := range s.Curve {
		s.Curve[i] = generated(257, func(i int) int { return i * i * 65535 / 65536 })
	}
	return s
}

// photographic returns a space with the primaries of sRGB over CIE XYZ, whose matrices are inverse only nearly.
func photographic() api.Space {
	s := spaceOf([9]int{1689, 1465, 739, 871, 2929, 296, 79, 488, 3892}, [9]int{13273, -6296, -2042, -3970, 7684, 170, 228, -836, 4330})
	for i := range s.Curve {
		s.Curve[i], _ = curve.Gamma(8, 4, 100+i)
	}
	return s
}

// generated returns the curve of these many points whose values are a function of their index.
func generated(points int, value func(i int) int) api.Curve {
	c := make(api.Curve, points)
	for i := range c {
		c[i] = value(i)
	}
	return c
}

// offBy returns the space whose product From To differs from the identity by 32768 everywhere, with signs.
func offBy(onDiagonal, elsewhere int) api.Space {
	from := [9]int{elsewhere, elsewhere, elsewhere, elsewhere, elsewhere, elsewhere, elsewhere, elsewhere, elsewhere}
	return spaceOf(identity, with(from, entry{0, 0, 4096 + onDiagonal}, entry{1, 1, 4096 + onDiagonal}, entry{2, 2, 4096 + onDiagonal}))
}

// validSpaces returns spaces of all kinds: with entries at both bounds, with matrices that are inverse only nearly, and with curves that are steep, flat, or do not reach all values.
func validSpaces() []api.Space {
	step := generated(257, func(i int) int { return i / 100 * 65535 / 2 })
	return []api.Space{
		colour.Device(), quadratic(), photographic(),
		curved(api.Curve{10000, 20000}, api.Curve{0, 0}, api.Curve{65535, 65535}),
		curved(step, api.Curve{0, 40000, 40000, 50000}, api.Curve{0, 0, 1}),
		spaceOf(diagonal(65536, 256, 4096), with(diagonal(256, 65536, 4096), entry{0, 1, 1})),
		spaceOf(diagonal(-65536, 2048, -1024), diagonal(-256, 8192, -16384)),
		spaceOf(with(identity, entry{0, 1, 65536}), with(identity, entry{0, 1, -65536})),
		spaceOf(with(identity, entry{2, 0, -65536}), with(identity, entry{2, 0, 65536})),
		spaceOf(diagonal(256, 256, 256), diagonal(65536, 65536, 65536)),
		offBy(8, 8), offBy(-8, 8), offBy(8, -8), offBy(-8, -8),
	}
}

// invalidCurves returns curves with a wrong number of points, a point out of range and points that fall.
func invalidCurves() []api.Curve {
	return []api.Curve{
		nil, {}, {5}, {65535}, make(api.Curve, 258), {-1, 5}, {0, 65536}, {5, 4}, {0, 9, 8, 65535}, {least, greatest}, {greatest, least}, {0, 1 << 32},
	}
}

// invalidSpaces returns spaces with an invalid curve, with an entry out of range, and with matrices that are not nearly inverse.
func invalidSpaces() []api.Space {
	spaces := []api.Space{
		{},
		{To: identity, From: identity},
		spaceOf(identity, [9]int{}), spaceOf([9]int{}, identity), spaceOf([9]int{}, [9]int{}),
		spaceOf(identity, diagonal(-4096, -4096, -4096)),
		spaceOf(diagonal(1, 1, 1), diagonal(1, 1, 1)),
		spaceOf(diagonal(65537, 4096, 4096), diagonal(256, 4096, 4096)),
		offBy(9, 0), offBy(-9, 0), offBy(0, 9), offBy(0, -9),
	}
	for i := range 3 {
		for _, c := range invalidCurves() {
			s := quadratic()
			s.Curve[i] = c
			spaces = append(spaces, s)
		}
	}
	return spaces
}

// exactProduct multiplies a colour by a matrix, in units of 1/4096.
func exactProduct(m [9]int, c api.Colour) api.Colour {
	var product api.Colour
	for i := range product {
		product[i] = roundHalfUp(fraction(m[3*i]*c[0]+m[3*i+1]*c[1]+m[3*i+2]*c[2], 4096))
	}
	return product
}

// exactTo converts to the reference space from a valid space.
func exactTo(s api.Space, c api.Colour) api.Colour {
	for i, v := range clampedColour(c, -1<<24, 1<<24) {
		c[i] = curve.At(s.Curve[i], v)
	}
	return exactProduct(s.To, c)
}

// exactFrom converts from the reference space to a valid space.
func exactFrom(s api.Space, c api.Colour) api.Colour {
	c = exactClip(exactProduct(s.From, clampedColour(c, -1<<24, 1<<24)))
	for i, v := range c {
		c[i] = 65535
		if x, ok := curve.Solve(s.Curve[i], v); ok {
			c[i] = x
		}
	}
	return c
}

// expectValid checks that a space is valid, or that it is not.
func expectValid(t *testing.T, s api.Space, want bool) {
	t.Helper()
	if got := colour.Valid(s); got != want {
		t.Errorf("Valid is %v for curves of %d, %d and %d points, To %v and From %v", got, len(s.Curve[0]), len(s.Curve[1]), len(s.Curve[2]), s.To, s.From)
	}
}

// P6.1: spaces of all kinds.
func TestValid(t *testing.T) {
	for _, s := range validSpaces() {
		expectValid(t, s, true)
	}
	for _, s := range invalidSpaces() {
		expectValid(t, s, false)
	}
}

// P6.1: curves with as few and as many points as they may have, and with one point too few or too many, in each channel.
func TestValidCurves(t *testing.T) {
	for i := range 3 {
		for _, count := range []int{0, 1, 2, 3, 256, 257, 258} {
			s := colour.Device()
			s.Curve[i] = make(api.Curve, count)
			expectValid(t, s, count >= 2 && count <= 257)
		}
		for _, c := range invalidCurves() {
			s := colour.Device()
			s.Curve[i] = c
			expectValid(t, s, false)
		}
	}
}

// P6.1: every entry of both matrices at the bounds and just beyond them, in matrices that are nearly inverse in any case.
func TestValidEntries(t *testing.T) {
	for i := range 3 {
		for j := range 3 {
			for _, sign := range []int{1, -1} {
				counterpart := -65536 * sign
				if i == j {
					counterpart = 256 * sign
				}
				for beyond := range 2 {
					large := with(identity, entry{i, j, sign * (65536 + beyond)})
					other := with(identity, entry{i, j, counterpart})
					expectValid(t, spaceOf(large, other), beyond == 0)
					expectValid(t, spaceOf(other, large), beyond == 0)
				}
			}
		}
	}
}

// P6.1: every entry of both matrices, with integers whose products wrap around.
func TestValidEntriesThatWrapAround(t *testing.T) {
	for i := range 3 {
		for j := range 3 {
			for _, huge := range []int{least, greatest, 1 << 52, -1 << 52, 1 << 62, 1<<52 + 4096, -1<<52 + 4096, least + 4096, 1 << 32, 1<<32 + 4096} {
				m := with(identity, entry{i, j, huge})
				expectValid(t, spaceOf(m, identity), false)
				expectValid(t, spaceOf(identity, m), false)
			}
		}
	}
}

// P6.1: every entry of the product, when it is off by exactly 32768 and by exactly 32769, upwards and downwards.
func TestValidProducts(t *testing.T) {
	for i := range 3 {
		for j := range 3 {
			for k := range 3 {
				if k == i || k == j {
					continue
				}
				for _, sign := range []int{1, -1} {
					from := with(identity, entry{i, j, identity[3*i+j] + 8*sign}, entry{i, k, 1})
					expectValid(t, spaceOf(identity, from), true)
					expectValid(t, spaceOf(with(identity, entry{k, j, -sign}), from), true)
					expectValid(t, spaceOf(with(identity, entry{k, j, sign}), from), false)
				}
			}
		}
	}
}

// P6.1: the product is From To, and To From may be far from the identity.
func TestValidOrderOfTheProduct(t *testing.T) {
	to := diagonal(65536, 256, 4096)
	expectValid(t, spaceOf(to, with(diagonal(256, 65536, 4096), entry{0, 1, 1})), true)
	expectValid(t, spaceOf(to, with(diagonal(256, 65536, 4096), entry{1, 0, 1})), false)
	expectValid(t, spaceOf(with(to, entry{1, 0, 1}), diagonal(256, 65536, 4096)), false)
	expectValid(t, spaceOf(with(to, entry{0, 1, 1}), diagonal(256, 65536, 4096)), true)
}

// P6.1: the device space.
func TestDevice(t *testing.T) {
	s := colour.Device()
	for i, c := range s.Curve {
		if len(c) != 2 || c[0] != 0 || c[1] != 65535 {
			t.Errorf("curve %d of Device is %v", i, c)
		}
	}
	if s.To != identity || s.From != identity {
		t.Errorf("the matrices of Device are %v and %v", s.To, s.From)
	}
	for _, c := range inGamutColours() {
		if to, from := colour.To(s, c), colour.From(s, c); to != c || from != c {
			t.Errorf("To(Device, %v) is %v, and From %v", c, to, from)
		}
	}
}

// P6.2: results in numbers: rounding of halves and of negative numbers, and results out of gamut.
func TestTo(t *testing.T) {
	halves := spaceOf(diagonal(2048, -2048, -1024), diagonal(8192, -8192, -16384))
	swapped := quadratic()
	for i := range swapped.Curve {
		swapped.Curve[i] = api.Curve{0, 16384, 65535}
	}
	for _, x := range []struct {
		s       api.Space
		c, want api.Colour
	}{
		{halves, api.Colour{1, 1, 1}, api.Colour{1, 0, 0}},
		{halves, api.Colour{2, 2, 2}, api.Colour{1, -1, 0}},
		{halves, api.Colour{3, 3, 3}, api.Colour{2, -1, -1}},
		{halves, api.Colour{5, 5, 5}, api.Colour{3, -2, -1}},
		{halves, api.Colour{7, 7, 6}, api.Colour{4, -3, -1}},
		{halves, api.Colour{65535, 65535, 65535}, api.Colour{32768, -32767, -16384}},
		{halves, api.Colour{-5, 65536, greatest}, api.Colour{0, -32767, -16384}},
		{swapped, api.Colour{0, 65535, 20000}, api.Colour{65535, 0, 10000}},
		{swapped, api.Colour{1234, 40000, 65535}, api.Colour{27233, 617, 65535}},
		{spaceOf(diagonal(65536, 65536, 65536), diagonal(256, 256, 256)), api.Colour{65535, 1, 300}, api.Colour{1048560, 16, 4800}},
		{curved(api.Curve{10, 20}, api.Curve{0, 0}, api.Curve{7, 7, 9}), api.Colour{0, 65535, 65535}, api.Colour{10, 0, 9}},
	} {
		if got := colour.To(x.s, x.c); got != x.want {
			t.Errorf("To with the matrix %v of %v is %v, not %v", x.s.To, x.c, got, x.want)
		}
	}
}

// P6.2: results in numbers: values that a curve does not reach, and colours that are clipped before and after they are clamped.
func TestFrom(t *testing.T) {
	low := curved(api.Curve{10, 20}, api.Curve{0, 0}, api.Curve{0, 32767, 32767})
	sixteen := spaceOf(diagonal(256, 256, 256), diagonal(65536, 65536, 65536))
	for _, x := range []struct {
		s       api.Space
		c, want api.Colour
	}{
		{low, api.Colour{15, 0, 32767}, api.Colour{29491, 0, 32767}},
		{low, api.Colour{21, 1, 32768}, api.Colour{65535, 65535, 65535}},
		{low, api.Colour{5, 0, 0}, api.Colour{0, 0, 0}},
		{colour.Device(), api.Colour{70000, 0, 0}, api.Colour{65535, 2233, 2233}},
		{colour.Device(), api.Colour{-3000, 30000, 60000}, api.Colour{0, 29906, 57093}},
		{quadratic(), api.Colour{0, 65535, 16384}, api.Colour{65535, 0, 32768}},
		{sixteen, api.Colour{1, 100, 4095}, api.Colour{16, 1600, 65520}},
		// L is 10000, and 10000 + 16767216 * 10000 / 16787216, whatever is beyond the limit.
		{colour.Device(), api.Colour{1 << 24, -1 << 24, 30000}, api.Colour{19988, 0, 10011}},
		{colour.Device(), api.Colour{1<<24 + 100000, -1 << 24, 30000}, api.Colour{19988, 0, 10011}},
		{colour.Device(), api.Colour{greatest, least, 30000}, api.Colour{19988, 0, 10011}},
		// The matrix gives 2^28, -2^27 and 1600, which are clamped by Clip; L is 533.
		{sixteen, api.Colour{1 << 24, -1 << 23, 100}, api.Colour{1065, 0, 533}},
		{sixteen, api.Colour{greatest, -1 << 20, 100}, api.Colour{1065, 0, 533}},
	} {
		if got := colour.From(x.s, x.c); got != x.want {
			t.Errorf("From with the matrix %v of %v is %v, not %v", x.s.From, x.c, got, x.want)
		}
	}
}

// P6.2 and P6.8: colours of all kinds in spaces of all kinds, with rational numbers; what From returns is in gamut.
func TestToAndFromAreExactlyRounded(t *testing.T) {
	for k, s := range validSpaces() {
		for _, c := range allColours() {
			if got, want := colour.To(s, c), exactTo(s, c); got != want {
				t.Fatalf("To with space %d of %v is %v, not %v", k, c, got, want)
			}
			if got, want := colour.From(s, c), exactFrom(s, c); got != want || !isInGamut(got) {
				t.Fatalf("From with space %d of %v is %v, not %v", k, c, got, want)
			}
		}
	}
}

// P6.2: nothing can be converted with an invalid space.
func TestToAndFromWithInvalidSpaces(t *testing.T) {
	for k, s := range invalidSpaces() {
		for _, c := range combined(-5, 1, 40000, 65535, 70000, greatest) {
			if to, from := colour.To(s, c), colour.From(s, c); to != (api.Colour{}) || from != (api.Colour{}) {
				t.Fatalf("To with the invalid space %d of %v is %v, and From is %v", k, c, to, from)
			}
		}
	}
}
