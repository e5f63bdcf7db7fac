package filter_test

import (
	"slices"
	"testing"

	"gouache/api"
)

// expectChosen reports another median, erosion or dilation of a window.
func expectChosen(t *testing.T, median, least, greatest api.Pixel, window ...api.Pixel) {
	t.Helper()
	radius := slices.Index([]int{1, 9, 25, 49}, len(window))
	expectOne(t, ofKind(api.Median, radius), median, window...)
	expectOne(t, ofKind(api.Erode, radius), least, window...)
	expectOne(t, ofKind(api.Dilate, radius), greatest, window...)
}

// P13.3: the values of one channel, in any order.
func TestChooseOfOpaquePixels(t *testing.T) {
	expectChosen(t, grey(50), grey(10), grey(95), greys(around(1), 10, 20, 30, 40, 50, 60, 70, 80, 95).Pixels...)
	expectChosen(t, grey(50), grey(10), grey(95), greys(around(1), 95, 80, 70, 60, 50, 40, 30, 20, 10).Pixels...)
	expectChosen(t, grey(5), grey(1), grey(9), greys(around(1), 9, 1, 8, 2, 7, 3, 6, 4, 5).Pixels...)
	expectChosen(t, grey(0), grey(0), grey(255), greys(around(1), 255, 255, 255, 255, 0, 0, 0, 0, 0).Pixels...)
	expectChosen(t, grey(255), grey(0), grey(255), greys(around(1), 255, 255, 255, 255, 255, 0, 0, 0, 0).Pixels...)
	expectChosen(t, grey(7), grey(7), grey(7), greys(around(1), 7, 7, 7, 7, 7, 7, 7, 7, 7).Pixels...)
	expectChosen(t, grey(7), grey(6), grey(8), greys(around(1), 6, 6, 6, 7, 7, 8, 8, 8, 8).Pixels...)
	expectChosen(t, grey(8), grey(6), grey(8), greys(around(1), 6, 6, 6, 7, 8, 8, 8, 8, 8).Pixels...)
}

// P13.3: windows of all sizes whose values are all different, rotated.
func TestChooseOfAllRadii(t *testing.T) {
	for radius := range 4 {
		size := (2*radius + 1) * (2*radius + 1)
		for shift := range size {
			var window []api.Pixel
			for i := range size {
				// 2 and the sizes have no common divisor, so that each value occurs once.
				window = append(window, grey(uint8(100+(2*i+shift)%size)))
			}
			expectChosen(t, grey(uint8(100+size/2)), grey(100), grey(uint8(99+size)), window...)
		}
	}
}

// P13.3: each channel by itself, so that the result may be no pixel of the input.
func TestChooseOfChannels(t *testing.T) {
	expectChosen(t, of(5, 50, 15, 105), of(1, 10, 11, 101), of(9, 90, 19, 109),
		of(1, 90, 15, 109), of(2, 80, 14, 108), of(3, 70, 16, 107), of(4, 60, 13, 106), of(5, 50, 17, 105), of(6, 40, 12, 104), of(7, 30, 18, 103), of(8, 20, 11, 102), of(9, 10, 19, 101))
	expectChosen(t, of(1, 0, 0, 255), of(0, 0, 0, 255), of(1, 2, 3, 255),
		of(1, 0, 0, 255), of(1, 2, 0, 255), of(1, 0, 3, 255), of(1, 2, 0, 255), of(1, 0, 3, 255), of(0, 0, 0, 255), of(0, 2, 3, 255), of(0, 2, 3, 255), of(0, 0, 0, 255))
}

// P13.3: transparent pixels in the window: their colours count as they are, and a transparent result has none.
func TestChooseOfTransparentPixels(t *testing.T) {
	opaque, unclean := of(10, 20, 30, 255), of(200, 5, 100, 0)
	window := func(n int) []api.Pixel {
		return slices.Concat(slices.Repeat([]api.Pixel{unclean}, n), slices.Repeat([]api.Pixel{opaque}, 9-n))
	}
	expectChosen(t, opaque, opaque, opaque, window(0)...)
	expectChosen(t, opaque, api.Pixel{}, of(200, 20, 100, 255), window(1)...)
	expectChosen(t, opaque, api.Pixel{}, of(200, 20, 100, 255), window(4)...)
	expectChosen(t, api.Pixel{}, api.Pixel{}, of(200, 20, 100, 255), window(5)...)
	expectChosen(t, api.Pixel{}, api.Pixel{}, of(200, 20, 100, 255), window(8)...)
	expectChosen(t, api.Pixel{}, api.Pixel{}, api.Pixel{}, window(9)...)
	expectChosen(t, opaque, opaque, opaque, opaque)
	expectChosen(t, api.Pixel{}, api.Pixel{}, api.Pixel{}, unclean)
	// The colours of transparent pixels make the median of an image that is hardly opaque.
	expectChosen(t, of(200, 5, 100, 3), api.Pixel{}, of(200, 20, 100, 9), unclean, unclean, unclean, unclean, of(200, 5, 100, 3), of(10, 20, 30, 5), of(10, 20, 30, 6), of(10, 20, 30, 7), of(200, 5, 100, 9))
}

// P13.3: a rectangle of several pixels, each with a window of its own.
func TestChooseOfRects(t *testing.T) {
	in := greys(box(-1, 4, 4, 8),
		1, 0, 10, 20, 30,
		2, 3, 40, 50, 60,
		9, 9, 9, 9, 9,
		100, 110, 120, 130, 140)
	r := box(0, 5, 3, 7)
	expectPixels(t, ofKind(api.Median, 1), in, r, grey(9), grey(9), grey(20), grey(9), grey(40), grey(50))
	expectPixels(t, ofKind(api.Erode, 1), in, r, grey(0), grey(0), grey(9), grey(2), grey(3), grey(9))
	expectPixels(t, ofKind(api.Dilate, 1), in, r, grey(40), grey(50), grey(60), grey(120), grey(130), grey(140))
}

// P13.3: many windows, against the definition.
func TestManyChoices(t *testing.T) {
	for _, kind := range kindsWithRadius {
		for seed := range 500 {
			expectModel(t, ofKind(kind, seed%4), noise(seed, box(-6, -5, 8, 5)), box(-3, -2, 5, 2))
			f, in, r := scatteredCase(kind, seed)
			expectModel(t, f, in, r)
		}
	}
}
