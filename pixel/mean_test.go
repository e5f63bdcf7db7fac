package pixel_test

import (
	"math/big"
	"testing"

	"gouache/api"
	"gouache/pixel"
)

// many is a pixel with its multiplicity.
type many struct {
	p api.Pixel
	n int
}

// meanOf returns the mean of pixels.
func meanOf(pixels ...many) api.Pixel {
	var m pixel.Mean
	for _, x := range pixels {
		m.Add(x.p, x.n)
	}
	return m.Pixel()
}

// exactMean computes the mean from the definition, with integers of arbitrary size, for multiplicities from 1 to 65536.
func exactMean(pixels ...many) api.Pixel {
	var count, alpha big.Int
	var colour [3]big.Int
	for _, x := range pixels {
		n := big.NewInt(int64(x.n))
		count.Add(&count, n)
		weight := new(big.Int).Mul(n, big.NewInt(int64(x.p.A)))
		alpha.Add(&alpha, weight)
		for i, value := range []uint8{x.p.R, x.p.G, x.p.B} {
			colour[i].Add(&colour[i], new(big.Int).Mul(weight, big.NewInt(int64(value))))
		}
	}
	if count.Sign() == 0 {
		return api.Pixel{}
	}
	rounded := roundHalfUp(new(big.Rat).SetFrac(&alpha, &count))
	if rounded == 0 {
		return api.Pixel{}
	}
	channel := func(i int) uint8 { return uint8(roundHalfUp(new(big.Rat).SetFrac(&colour[i], &alpha))) }
	return of(channel(0), channel(1), channel(2), uint8(rounded))
}

// P4.6: without any pixel, the mean is the zero pixel.
func TestMeanOfNothing(t *testing.T) {
	if got := meanOf(); got != (api.Pixel{}) {
		t.Errorf("the mean of no pixels is %v", got)
	}
	if got := new(pixel.Mean).Pixel(); got != (api.Pixel{}) {
		t.Errorf("the mean of no pixels is %v", got)
	}
}

// P4.6: some means in numbers.
func TestMeanOfSomePixels(t *testing.T) {
	for i, x := range []struct {
		pixels []many
		want   api.Pixel
	}{
		{[]many{{of(1, 2, 3, 4), 1}}, of(1, 2, 3, 4)},
		{[]many{{of(1, 2, 3, 0), 1}}, api.Pixel{}},
		{[]many{{of(255, 0, 0, 255), 3}, {of(0, 99, 0, 0), 1}}, of(255, 0, 0, 191)},
		{[]many{{of(255, 0, 0, 255), 1}, {of(0, 255, 0, 255), 2}}, of(85, 170, 0, 255)},
		// The halves 254.5 and 1.5 as the alpha, and 1.5, 127.5 and 2.5 as colours.
		{[]many{{of(1, 0, 2, 255), 1}, {of(2, 255, 3, 254), 1}}, of(1, 127, 2, 255)},
		{[]many{{of(1, 0, 2, 254), 1}, {of(2, 255, 3, 254), 1}}, of(2, 128, 3, 254)},
		{[]many{{of(7, 7, 7, 1), 1}, {of(7, 7, 7, 2), 1}}, of(7, 7, 7, 2)},
		// An alpha of 0.5 is rounded to 1, one of 0.49 or less to 0, and then there is no colour.
		{[]many{{of(7, 8, 9, 1), 1}, {of(0, 0, 0, 0), 1}}, of(7, 8, 9, 1)},
		{[]many{{of(7, 8, 9, 1), 1}, {of(0, 0, 0, 0), 2}}, api.Pixel{}},
		{[]many{{of(7, 8, 9, 1), 100}, {of(0, 0, 0, 0), 101}}, api.Pixel{}},
		// The more opaque pixel has the greater share: 100 * 1 + 200 * 3, divided by 4.
		{[]many{{of(100, 0, 0, 1), 1}, {of(200, 0, 0, 3), 1}}, of(175, 0, 0, 2)},
	} {
		if got := meanOf(x.pixels...); got != x.want {
			t.Errorf("mean %d is %v, not %v", i, got, x.want)
		}
	}
}

// P4.6: many means, one after the other, as pixels of all kinds are added; asking for a mean changes nothing.
func TestMeanIsExactlyRounded(t *testing.T) {
	var m pixel.Mean
	var added []many
	for round, times := range []int{1, 2, 3, 65536, 1000, 7} {
		for i, p := range somePixels() {
			x := many{p, max(1, times-i)}
			m.Add(x.p, x.n)
			added = append(added, x)
			if first, again, want := m.Pixel(), m.Pixel(), exactMean(added...); first != want || again != want {
				t.Errorf("the mean after %d rounds and %d pixels is %v and then %v, not %v", round, i+1, first, again, want)
			}
		}
	}
}

// P4.6: the means of all pairs of pixels with several multiplicities.
func TestMeanOfPairs(t *testing.T) {
	for _, p := range somePixels() {
		for _, q := range somePixels() {
			for _, n := range []int{1, 2, 3, 255, 65535, 65536} {
				if got, want := meanOf(many{p, n}, many{q, 2}), exactMean(many{p, n}, many{q, 2}); got != want {
					t.Errorf("the mean of %v (%d times) and %v (twice) is %v, not %v", p, n, q, got, want)
				}
			}
		}
	}
}

// P4.6: a multiplicity below 1 has no effect, neither on an empty mean nor on another one.
func TestMeanIgnoresMultiplicitiesBelowOne(t *testing.T) {
	for _, n := range []int{0, -1, -2, -65536, -65537, -1 << 32, least + 1, least} {
		if got := meanOf(many{of(1, 2, 3, 255), n}); got != (api.Pixel{}) {
			t.Errorf("a pixel added %d times gives %v", n, got)
		}
		if got := meanOf(many{of(9, 9, 9, 100), 1}, many{of(1, 2, 3, 255), n}); got != of(9, 9, 9, 100) {
			t.Errorf("a pixel added %d times to another one gives %v", n, got)
		}
	}
}

// P4.6: a multiplicity above 65536 counts as 65536, not as more and not as less.
func TestMeanBoundsMultiplicities(t *testing.T) {
	for _, n := range []int{65536, 65537, 65538, 1 << 17, 1<<32 + 1, 1 << 62, greatest} {
		// The mean is 1.5, and rounded up, exactly if both pixels have been added as often.
		if got := meanOf(many{of(1, 1, 1, 255), n}, many{of(2, 2, 2, 255), 65535}); got != of(1, 1, 1, 255) {
			t.Errorf("a pixel added %d times and another one 65535 times give %v", n, got)
		}
		if got := meanOf(many{of(1, 1, 1, 255), n}, many{of(2, 2, 2, 255), 65536}); got != of(2, 2, 2, 255) {
			t.Errorf("a pixel added %d times and another one 65536 times give %v", n, got)
		}
	}
	if got := meanOf(many{of(1, 1, 1, 255), 65535}, many{of(2, 2, 2, 255), 65536}); got != of(2, 2, 2, 255) {
		t.Errorf("65535 and 65536 pixels give %v", got)
	}
	if got := meanOf(many{of(1, 1, 1, 255), 65536}, many{of(2, 2, 2, 255), 65535}); got != of(1, 1, 1, 255) {
		t.Errorf("65536 and 65535 pixels give %v", got)
	}
}

// P4.6: as many calls as the chapter specifies, each with the greatest multiplicity, do not wrap around.
func TestMeanOfManyCalls(t *testing.T) {
	var m pixel.Mean
	const half = 1 << 19
	for range half {
		m.Add(of(255, 255, 0, 255), 65536)
		m.Add(of(255, 0, 1, 255), 65536)
	}
	if got := m.Pixel(); got != of(255, 128, 1, 255) {
		t.Errorf("the mean is %v", got)
	}
}

// P4.6: calls without effect do not count, however many there are.
func TestMeanOfManyCallsWithoutEffect(t *testing.T) {
	var m pixel.Mean
	m.Add(of(10, 20, 30, 40), 1)
	for range 1<<20 + 1 {
		m.Add(of(255, 255, 255, 255), 0)
	}
	if got := m.Pixel(); got != of(10, 20, 30, 40) {
		t.Errorf("the mean is %v", got)
	}
}

// P4.6: a nil mean takes no pixels.
func TestNilMean(t *testing.T) {
	var m *pixel.Mean
	for _, n := range []int{1, 0, -1, least, greatest} {
		m.Add(of(1, 2, 3, 4), n)
	}
	if got := m.Pixel(); got != (api.Pixel{}) {
		t.Errorf("the mean of a nil Mean is %v", got)
	}
}

// R4: two means know nothing of one another, and a copy goes on by itself.
func TestMeansAreIndependent(t *testing.T) {
	var m, other pixel.Mean
	m.Add(of(100, 0, 0, 255), 1)
	other.Add(of(0, 0, 7, 255), 1)
	branch := m
	branch.Add(of(200, 0, 0, 255), 1)
	if m.Pixel() != of(100, 0, 0, 255) || other.Pixel() != of(0, 0, 7, 255) || branch.Pixel() != of(150, 0, 0, 255) {
		t.Errorf("the means are %v, %v and %v", m.Pixel(), other.Pixel(), branch.Pixel())
	}
}
