package pixel_test

import (
	"math/big"
	"testing"

	"gouache/api"
	"gouache/pixel"
)

// exactOver composites as the equations for straight alpha do, with rational numbers: what only one of the pixels covers has its colour, and what both cover has the blended one. Only the alpha of the faded source and the blended values are rounded before the end.
func exactOver(back, src api.Pixel, mode, coverage int) api.Pixel {
	upper, lower := fraction(exactMul(int(src.A), coverage)), fraction(int(back.A))
	both, onlyUpper, onlyLower := times(upper, lower), times(upper, missing(lower)), times(missing(upper), lower)
	alpha := plus(both, onlyUpper, onlyLower)
	if alpha.Sign() == 0 {
		return api.Pixel{}
	}
	channel := func(b, s uint8) uint8 {
		blended := big.NewRat(int64(chapterBlend(mode, int(b), int(s))), 1)
		sum := plus(times(onlyUpper, big.NewRat(int64(s), 1)), times(both, blended), times(onlyLower, big.NewRat(int64(b), 1)))
		return uint8(roundHalfUp(sum.Quo(sum, alpha)))
	}
	return of(channel(back.R, src.R), channel(back.G, src.G), channel(back.B, src.B), uint8(roundHalfUp(times(alpha, big.NewRat(255, 1)))))
}

// exactMix interpolates the colours multiplied by their alphas, with rational numbers.
func exactMix(a, b api.Pixel, t int) api.Pixel {
	first, second := times(fraction(int(a.A)), missing(fraction(t))), times(fraction(int(b.A)), fraction(t))
	alpha := plus(first, second)
	rounded := roundHalfUp(times(alpha, big.NewRat(255, 1)))
	if rounded == 0 {
		return api.Pixel{}
	}
	channel := func(x, y uint8) uint8 {
		sum := plus(times(first, big.NewRat(int64(x), 1)), times(second, big.NewRat(int64(y), 1)))
		return uint8(roundHalfUp(sum.Quo(sum, alpha)))
	}
	return of(channel(a.R, b.R), channel(a.G, b.G), channel(a.B, b.B), uint8(rounded))
}

// P4.3: pixels of all kinds in all modes, with several coverages.
func TestOverIsExactlyRounded(t *testing.T) {
	for _, back := range somePixels() {
		for _, src := range somePixels() {
			for mode := -1; mode <= 16; mode++ {
				for _, coverage := range []int{0, 1, 100, 255} {
					if got, want := pixel.Over(back, src, mode, coverage), exactOver(back, src, mode, coverage); got != want {
						t.Errorf("Over(%v, %v, %d, %d) is %v, not %v", back, src, mode, coverage, got, want)
					}
				}
			}
		}
	}
}

// P4.3: all alphas of the source and of the backdrop.
func TestOverOfAllAlphas(t *testing.T) {
	for u := range 256 {
		for v := range 256 {
			back, src := of(200, uint8(u), 90, uint8(v)), of(30, 255, uint8(v), uint8(u))
			mode := (u + v) % 16
			if got, want := pixel.Over(back, src, mode, 255), exactOver(back, src, mode, 255); got != want {
				t.Errorf("Over(%v, %v, %d, 255) is %v, not %v", back, src, mode, got, want)
			}
		}
	}
}

// P4.3: some results in numbers: the example of the chapter, and colours that are halves before they are rounded.
func TestOverOfSomePixels(t *testing.T) {
	for _, x := range []struct {
		back, src      api.Pixel
		mode, coverage int
		want           api.Pixel
	}{
		{of(0, 0, 255, 255), of(255, 0, 0, 255), api.Normal, 51, of(51, 0, 204, 255)},
		{of(200, 0, 0, 128), of(100, 0, 0, 128), api.Normal, 255, of(133, 0, 0, 192)},
		{of(200, 100, 50, 255), of(100, 200, 7, 255), api.Subtract, 255, of(100, 0, 43, 255)},
		{of(100, 10, 255, 51), of(200, 20, 0, 102), api.Average, 255, of(169, 17, 79, 133)},
		// With 30 and 34, W is 15300: 7650 / 15300, and 127.5 for 255 and 0.
		{of(1, 0, 255, 34), of(0, 1, 0, 30), api.Normal, 255, of(1, 1, 128, 60)},
		{of(0, 3, 0, 34), of(255, 0, 3, 30), api.Normal, 255, of(128, 2, 2, 60)},
		// With 60 on both sides, W is 27000: 110.5 and 144.5.
		{of(255, 0, 0, 60), of(0, 255, 0, 60), api.Normal, 255, of(111, 145, 0, 106)},
		// A coverage that fades the source to nothing.
		{of(1, 2, 3, 4), of(255, 255, 255, 1), api.Add, 127, of(1, 2, 3, 4)},
		{of(1, 2, 3, 0), of(255, 255, 255, 1), api.Add, 127, api.Pixel{}},
		{of(1, 2, 3, 0), of(255, 255, 255, 1), api.Add, 128, of(255, 255, 255, 1)},
		{of(9, 9, 9, 0), of(9, 9, 9, 0), api.Screen, 255, api.Pixel{}},
		{api.Pixel{}, api.Pixel{}, api.Normal, 255, api.Pixel{}},
	} {
		if got := pixel.Over(x.back, x.src, x.mode, x.coverage); got != x.want {
			t.Errorf("Over(%v, %v, %d, %d) is %v, not %v", x.back, x.src, x.mode, x.coverage, got, x.want)
		}
	}
}

// P4.3: a coverage out of range is clamped, and a mode out of range is Normal.
func TestOverClampsTheCoverage(t *testing.T) {
	back, src := of(200, 10, 0, 128), of(100, 250, 9, 200)
	for n, clamped := range outOfRange() {
		for mode := range 16 {
			if got, want := pixel.Over(back, src, mode, n), exactOver(back, src, mode, clamped); got != want {
				t.Errorf("Over with coverage %d and mode %d is %v, not %v", n, mode, got, want)
			}
		}
		if got, want := pixel.Over(back, src, n, 77), pixel.Over(back, src, api.Normal, 77); n != clamped && (n < 0 || n > 15) && got != want {
			t.Errorf("Over with mode %d is %v, not %v", n, got, want)
		}
	}
}

// P4.8: an opaque source in mode Normal hides the backdrop, and the colour of a transparent backdrop is not seen.
func TestOverWithAnOpaqueSource(t *testing.T) {
	for _, back := range somePixels() {
		for _, src := range somePixels() {
			src.A = 255
			if got := pixel.Over(back, src, api.Normal, 255); got != src {
				t.Errorf("Over(%v, %v) is %v", back, src, got)
			}
		}
	}
}

// P4.8: without coverage, or with a transparent source, the backdrop stays in every mode; if it is transparent, it is cleaned.
func TestOverWithoutSource(t *testing.T) {
	for mode := -1; mode <= 16; mode++ {
		for _, back := range somePixels() {
			want := back
			if back.A == 0 {
				want = api.Pixel{}
			}
			for _, src := range somePixels() {
				if got := pixel.Over(back, src, mode, 0); got != want {
					t.Errorf("Over(%v, %v, %d, 0) is %v", back, src, mode, got)
				}
				src.A = 0
				if got := pixel.Over(back, src, mode, 255); got != want {
					t.Errorf("Over(%v, %v, %d, 255) is %v", back, src, mode, got)
				}
			}
		}
	}
}

// P4.8: over a transparent backdrop, of whatever colour, the source is only faded, in every mode.
func TestOverWithATransparentBackdrop(t *testing.T) {
	for mode := -1; mode <= 16; mode++ {
		for _, src := range somePixels() {
			for coverage := range 256 {
				want := pixel.Fade(src, coverage)
				for _, back := range []api.Pixel{{}, of(255, 128, 1, 0)} {
					if got := pixel.Over(back, src, mode, coverage); got != want {
						t.Errorf("Over(%v, %v, %d, %d) is %v, not %v", back, src, mode, coverage, got, want)
					}
				}
			}
		}
	}
}

// P4.4: pixels of all kinds, with all parameters.
func TestMixIsExactlyRounded(t *testing.T) {
	for _, a := range somePixels() {
		for _, b := range somePixels() {
			for _, parameter := range []int{0, 1, 2, 51, 100, 127, 128, 204, 254, 255} {
				if got, want := pixel.Mix(a, b, parameter), exactMix(a, b, parameter); got != want {
					t.Errorf("Mix(%v, %v, %d) is %v, not %v", a, b, parameter, got, want)
				}
			}
		}
	}
	a, b := of(200, 3, 77, 90), of(10, 255, 78, 201)
	for parameter := range 256 {
		if got, want := pixel.Mix(a, b, parameter), exactMix(a, b, parameter); got != want {
			t.Errorf("Mix(%v, %v, %d) is %v, not %v", a, b, parameter, got, want)
		}
	}
}

// P4.4: some results in numbers: the example of the chapter, both ends, halves, and an alpha that is rounded to 0.
func TestMixOfSomePixels(t *testing.T) {
	red, blue := of(255, 0, 0, 255), of(0, 0, 255, 255)
	for _, x := range []struct {
		a, b api.Pixel
		t    int
		want api.Pixel
	}{
		{red, api.Pixel{}, 51, of(255, 0, 0, 204)},
		{red, of(9, 9, 9, 0), 51, of(255, 0, 0, 204)},
		{of(9, 9, 9, 0), red, 51, of(255, 0, 0, 51)},
		{red, blue, 51, of(204, 0, 51, 255)},
		{red, blue, 0, red},
		{red, blue, 255, blue},
		{of(7, 7, 7, 3), of(9, 9, 9, 0), 0, of(7, 7, 7, 3)},
		{of(7, 7, 7, 3), of(9, 9, 9, 0), 255, api.Pixel{}},
		{of(7, 7, 7, 0), of(9, 9, 9, 4), 0, api.Pixel{}},
		// Both weights are 204, so that the colours are 1.5, 127.5 and 2.5.
		{of(1, 0, 3, 1), of(2, 255, 2, 4), 51, of(2, 128, 3, 2)},
		// 127 / 255 is rounded to 0, and 128 / 255 to 1.
		{of(7, 0, 0, 1), of(9, 9, 9, 0), 128, api.Pixel{}},
		{of(7, 0, 0, 1), of(9, 9, 9, 0), 127, of(7, 0, 0, 1)},
		{of(7, 0, 0, 1), of(9, 9, 9, 0), 200, api.Pixel{}},
		{of(9, 9, 9, 0), of(7, 0, 0, 1), 127, api.Pixel{}},
		{of(9, 9, 9, 0), of(7, 0, 0, 1), 128, of(7, 0, 0, 1)},
	} {
		if got := pixel.Mix(x.a, x.b, x.t); got != x.want {
			t.Errorf("Mix(%v, %v, %d) is %v, not %v", x.a, x.b, x.t, got, x.want)
		}
	}
}

// P4.4: a parameter out of range is clamped.
func TestMixClampsTheParameter(t *testing.T) {
	for n, clamped := range outOfRange() {
		for _, a := range somePixels() {
			for _, b := range somePixels() {
				if got, want := pixel.Mix(a, b, n), exactMix(a, b, clamped); got != want {
					t.Errorf("Mix(%v, %v, %d) is %v, not %v", a, b, n, got, want)
				}
			}
		}
	}
}
