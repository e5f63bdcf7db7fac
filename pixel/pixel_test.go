package pixel_test

import (
	"math"
	"math/big"
	"testing"

	"gouache/api"
	"gouache/pixel"
)

const (
	least    = math.MinInt
	greatest = math.MaxInt
)

// of returns the pixel with these channels.
func of(r, g, b, a uint8) api.Pixel {
	return api.Pixel{R: r, G: g, B: b, A: a}
}

// outOfRange returns integers that are no channel values, with the channel value that each of them counts as.
func outOfRange() map[int]int {
	clamped := map[int]int{}
	for _, n := range []int{-1, -2, -127, -128, -254, -255, -256, -257, -1 << 31, -1<<31 - 1, -1 << 32, -1 << 62, least + 1, least} {
		clamped[n] = 0
	}
	for _, n := range []int{256, 257, 383, 510, 511, 512, 65535, 65536, 1<<31 - 1, 1 << 31, 1 << 32, 1<<32 + 7, 1 << 62, greatest - 1, greatest} {
		clamped[n] = 255
	}
	return clamped
}

// roundHalfUp returns the integer nearest to x, which is not negative, or the greater one of the two.
func roundHalfUp(x *big.Rat) int {
	x = new(big.Rat).Add(x, big.NewRat(1, 2))
	return int(new(big.Int).Div(x.Num(), x.Denom()).Int64())
}

// fraction returns a channel value as a part of the greatest one.
func fraction(n int) *big.Rat {
	return big.NewRat(int64(n), 255)
}

// times returns the product of rational numbers.
func times(numbers ...*big.Rat) *big.Rat {
	product := big.NewRat(1, 1)
	for _, x := range numbers {
		product.Mul(product, x)
	}
	return product
}

// plus returns the sum of rational numbers.
func plus(numbers ...*big.Rat) *big.Rat {
	sum := new(big.Rat)
	for _, x := range numbers {
		sum.Add(sum, x)
	}
	return sum
}

// missing returns 1 - x.
func missing(x *big.Rat) *big.Rat {
	return new(big.Rat).Sub(big.NewRat(1, 1), x)
}

// exactMul is Mul of values in range, computed with rational numbers.
func exactMul(a, b int) int {
	return roundHalfUp(big.NewRat(int64(a*b), 255))
}

// somePixels returns pixels of several alphas, transparent ones with a colour among them; together they have many channel values.
func somePixels() []api.Pixel {
	var pixels []api.Pixel
	for i, alpha := range []uint8{0, 1, 2, 51, 127, 128, 200, 254, 255} {
		shift := uint8(7 * i)
		pixels = append(pixels, of(0, 255, 100+shift, alpha), of(127-shift, 128+shift, 1, alpha), of(255, 0, 254, alpha))
	}
	return pixels
}

// P4.1: every pair of channel values.
func TestMulOfAllChannelValues(t *testing.T) {
	for a := range 256 {
		for b := range 256 {
			if got, want := pixel.Mul(a, b), exactMul(a, b); got != want {
				t.Errorf("Mul(%d, %d) is %d, not %d", a, b, got, want)
			}
		}
	}
}

// P4.1: the example of the chapter, and products just below and above a half.
func TestMulRoundsToTheNearest(t *testing.T) {
	for _, x := range []struct{ a, b, want int }{
		{128, 128, 64}, {1, 127, 0}, {1, 128, 1}, {127, 1, 0}, {128, 1, 1}, {3, 42, 0}, {3, 43, 1}, {255, 255, 255}, {254, 254, 253}, {0, 255, 0}, {255, 0, 0}, {255, 77, 77},
	} {
		if got := pixel.Mul(x.a, x.b); got != x.want {
			t.Errorf("Mul(%d, %d) is %d, not %d", x.a, x.b, got, x.want)
		}
	}
}

// P4.1: integers out of range are clamped; none of their products wraps around.
func TestMulClampsItsArguments(t *testing.T) {
	for n, clamped := range outOfRange() {
		for b := range 256 {
			if pixel.Mul(n, b) != exactMul(clamped, b) || pixel.Mul(b, n) != exactMul(b, clamped) {
				t.Errorf("Mul(%d, %d) is %d, and exchanged %d", n, b, pixel.Mul(n, b), pixel.Mul(b, n))
			}
		}
		for other, otherClamped := range outOfRange() {
			if got, want := pixel.Mul(n, other), exactMul(clamped, otherClamped); got != want {
				t.Errorf("Mul(%d, %d) is %d, not %d", n, other, got, want)
			}
		}
	}
}

// P4.5: the alpha is multiplied and the colour stays, unless the result is transparent.
func TestFade(t *testing.T) {
	for _, p := range somePixels() {
		for coverage := range 256 {
			want := of(p.R, p.G, p.B, uint8(exactMul(int(p.A), coverage)))
			if want.A == 0 {
				want = api.Pixel{}
			}
			if got := pixel.Fade(p, coverage); got != want {
				t.Errorf("Fade(%v, %d) is %v, not %v", p, coverage, got, want)
			}
		}
	}
}

// P4.5: some results in numbers; an alpha that is rounded to 0 leaves no colour.
func TestFadeOfSomePixels(t *testing.T) {
	for _, x := range []struct {
		p        api.Pixel
		coverage int
		want     api.Pixel
	}{
		{of(255, 0, 9, 255), 128, of(255, 0, 9, 128)},
		{of(255, 0, 9, 255), 255, of(255, 0, 9, 255)},
		{of(255, 0, 9, 255), 1, of(255, 0, 9, 1)},
		{of(255, 0, 9, 255), 0, api.Pixel{}},
		{of(1, 2, 3, 1), 128, of(1, 2, 3, 1)},
		{of(1, 2, 3, 1), 127, api.Pixel{}},
		{of(1, 2, 3, 0), 255, api.Pixel{}},
		{api.Pixel{}, 255, api.Pixel{}},
	} {
		if got := pixel.Fade(x.p, x.coverage); got != x.want {
			t.Errorf("Fade(%v, %d) is %v, not %v", x.p, x.coverage, got, x.want)
		}
	}
}

// P4.5: a coverage out of range is clamped.
func TestFadeClampsTheCoverage(t *testing.T) {
	for n, clamped := range outOfRange() {
		for _, p := range somePixels() {
			if got, want := pixel.Fade(p, n), pixel.Fade(p, clamped); got != want {
				t.Errorf("Fade(%v, %d) is %v, not %v", p, n, got, want)
			}
		}
	}
}

// P4.5: Clean changes transparent pixels only.
func TestClean(t *testing.T) {
	for alpha := range 256 {
		for _, p := range []api.Pixel{{}, of(1, 0, 0, 0), of(0, 1, 0, 0), of(0, 0, 1, 0), of(255, 128, 7, 0), of(255, 255, 255, 0)} {
			p.A = uint8(alpha)
			want := p
			if alpha == 0 {
				want = api.Pixel{}
			}
			if got := pixel.Clean(p); got != want {
				t.Errorf("Clean(%v) is %v", p, got)
			}
		}
	}
}

// P1: no call panics, whatever its input is; integers out of range count as the nearest ones in range, and a transparent result has no colour.
func FuzzPixelsFollowTheirRules(f *testing.F) {
	f.Add(uint32(0xff0000ff), uint32(0x0000ffff), 0, 51)
	f.Add(uint32(0x01020300), uint32(0xffffff01), 15, 127)
	f.Add(uint32(0), uint32(0xffffff00), least, greatest)
	f.Add(uint32(0x80808080), uint32(0x7f7f7f7f), 16, -1)
	f.Fuzz(func(t *testing.T, first, second uint32, mode, n int) {
		a, b := unpack(first), unpack(second)
		clamped := min(max(n, 0), 255)
		if pixel.Over(a, b, mode, n) != pixel.Over(a, b, mode, clamped) || pixel.Mix(a, b, n) != pixel.Mix(a, b, clamped) || pixel.Fade(a, n) != pixel.Fade(a, clamped) {
			t.Errorf("%d is not clamped, with %v, %v and mode %d", n, a, b, mode)
		}
		if pixel.Mul(n, mode) != pixel.Mul(clamped, mode) || pixel.Blend(mode, n, mode) != pixel.Blend(mode, clamped, mode) {
			t.Errorf("%d is not clamped, with mode %d", n, mode)
		}
		var mean pixel.Mean
		mean.Add(a, n)
		mean.Add(b, mode)
		for _, p := range []api.Pixel{pixel.Over(a, b, mode, n), pixel.Mix(a, b, n), pixel.Fade(a, n), pixel.Clean(a), mean.Pixel()} {
			if p.A == 0 && p != (api.Pixel{}) {
				t.Errorf("%v is transparent, but has a colour", p)
			}
		}
		if again, ok := pixel.Mode(pixel.Name(mode)); ok != (pixel.Name(mode) != "") || ok && again != mode {
			t.Errorf("the mode %d has the name %q", mode, pixel.Name(mode))
		}
	})
}

// unpack returns the pixel whose channels are the bytes of n.
func unpack(n uint32) api.Pixel {
	return of(uint8(n>>24), uint8(n>>16), uint8(n>>8), uint8(n))
}
