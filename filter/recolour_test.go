package filter_test

import (
	"slices"
	"testing"

	"gouache/api"
	"gouache/curve"
	"gouache/filter"
)

// ramp returns an image that has each value in each channel, and no transparent pixel.
func ramp() api.Image {
	m := api.Image{Rect: box(-100, 7, 156, 8)}
	for i := range 256 {
		v := uint8(i)
		m.Pixels = append(m.Pixels, of(v, 255-v, v+100, max(v, 1)))
	}
	return m
}

// expectRecoloured reports an output of the ramp whose colour channels are not these values.
func expectRecoloured(t *testing.T, f api.Filter, channel func(v uint8) uint8) {
	t.Helper()
	in := ramp()
	var want []api.Pixel
	for _, p := range in.Pixels {
		want = append(want, of(channel(p.R), channel(p.G), channel(p.B), p.A))
	}
	expectPixels(t, f, in, in.Rect, want...)
}

// P13.3: curves that rise, are constant, and are steep.
func TestTone(t *testing.T) {
	for _, n := range []int{2, 3, 10, 17, 100, 256, 257} {
		expectRecoloured(t, api.Filter{Kind: api.Tone, Curve: curve.Line(n)}, func(v uint8) uint8 { return v })
	}
	for _, v := range []int{0, 1, 128, 129, 385, 386, 32767, 32768, 65278, 65407, 65535} {
		// Halves do not occur, because 257 is odd.
		want := uint8((v + 128) / 257)
		expectRecoloured(t, tone(v, v), func(uint8) uint8 { return want })
		expectRecoloured(t, tone(slices.Repeat([]int{v}, 257)...), func(uint8) uint8 { return want })
	}
	expectRecoloured(t, tone(0, 32896), func(v uint8) uint8 { return uint8(int(v)*128/255 + (int(v)*128%255+127)/255) })
	expectRecoloured(t, tone(0, 0, 65535, 65535), func(v uint8) uint8 { return uint8(min(max(3*int(v)-255, 0), 255)) })
	expectRecoloured(t, tone(65535, 65535, 65535), func(uint8) uint8 { return 255 })
	steep := slices.Concat(make([]int, 128), slices.Repeat([]int{65535}, 128))
	expectRecoloured(t, tone(steep...), func(v uint8) uint8 { return uint8(255 * (int(v) / 128)) })
}

// P13.3: the value of a curve is rounded before it is divided by 257, as curve.At rounds it.
func TestToneRoundsTwice(t *testing.T) {
	square, _ := curve.Gamma(2, 1, 257)
	root, _ := curve.Gamma(1, 3, 100)
	for _, c := range []api.Curve{square, root, {0, 257, 514}, {127, 130}, {128, 129}, {385, 386}, {100, 200, 65535}, {0, 1}} {
		expectRecoloured(t, api.Filter{Kind: api.Tone, Curve: c}, func(v uint8) uint8 { return uint8((curve.At(c, 257*int(v)) + 128) / 257) })
		expectRecoloured(t, api.Filter{Kind: api.Tone, Curve: c}, func(v uint8) uint8 { return uint8(toned(c, int(v))) })
	}
	expectOne(t, tone(128, 129), of(0, 1, 1, 9), of(127, 128, 255, 9))
	expectOne(t, tone(0, 65535), of(100, 0, 255, 1), of(100, 0, 255, 1))
	expectOne(t, tone(0, 0, 65535), of(0, 1, 255, 7), of(127, 128, 255, 7))
}

// P13.3: each colour channel is inverted, and the alpha is not.
func TestInvert(t *testing.T) {
	expectRecoloured(t, ofKind(api.Invert, 0), func(v uint8) uint8 { return 255 - v })
	expectOne(t, ofKind(api.Invert, 0), of(255, 0, 155, 1), of(0, 255, 100, 1))
	expectOne(t, ofKind(api.Invert, 0), of(0, 0, 0, 128), of(255, 255, 255, 128))
}

// P13.3: sums just at three times the value, and just below; the least and the greatest values.
func TestThreshold(t *testing.T) {
	black, white := of(0, 0, 0, 7), of(255, 255, 255, 7)
	expectOne(t, threshold(128), of(255, 255, 255, 255), of(200, 100, 90, 255))
	for _, p := range []api.Pixel{of(0, 0, 0, 7), of(1, 0, 0, 7), of(255, 255, 255, 7)} {
		expectOne(t, threshold(0), white, p)
		expectOne(t, threshold(256), black, p)
	}
	for v := 1; v <= 255; v++ {
		at := uint8(v)
		expectOne(t, threshold(v), white, of(at, at, at, 7))
		expectOne(t, threshold(v), black, of(at-1, at, at, 7))
		expectOne(t, threshold(v), black, of(at, at-1, at, 7))
		expectOne(t, threshold(v), black, of(at, at, at-1, 7))
		if v < 255 {
			expectOne(t, threshold(v), white, of(at-1, at+1, at, 7))
			expectOne(t, threshold(v), white, of(at, at-1, at+1, 7))
			expectOne(t, threshold(v), black, of(at+1, at-1, at-1, 7))
		}
		if 3*v <= 255 {
			expectOne(t, threshold(v), white, of(uint8(3*v), 0, 0, 7))
			expectOne(t, threshold(v), black, of(0, uint8(3*v-1), 0, 7))
		}
	}
	expectOne(t, threshold(170), white, of(255, 255, 0, 7))
	expectOne(t, threshold(170), black, of(255, 254, 0, 7))
	expectOne(t, threshold(255), black, of(255, 255, 254, 7))
}

// P13.3: transparent pixels stay transparent, and the colours that they have do not matter.
func TestRecolouredPixelsAreClean(t *testing.T) {
	for _, f := range []api.Filter{tone(0, 65535), tone(65535, 65535), tone(30000, 40000), ofKind(api.Invert, 0), threshold(0), threshold(1), threshold(256), offset(0, 0)} {
		for _, p := range []api.Pixel{{}, of(255, 255, 255, 0), of(9, 0, 0, 0), of(0, 9, 0, 0), of(0, 0, 9, 0)} {
			expectOne(t, f, api.Pixel{}, p)
		}
		expectPixels(t, f, imageOf(box(0, 0, 3, 1), of(1, 2, 3, 0), api.Pixel{}, of(200, 0, 0, 0)), box(0, 0, 3, 1), api.Pixel{}, api.Pixel{}, api.Pixel{})
	}
	expectOne(t, threshold(0), of(255, 255, 255, 1), of(0, 0, 0, 1))
	expectOne(t, tone(65535, 65535), of(255, 255, 255, 1), of(0, 0, 0, 1))
}

// P13.3: an offset in every direction: the output pixel comes from the other side.
func TestOffset(t *testing.T) {
	in := api.Image{Rect: box(-3, -3, 4, 4)}
	for i := range 49 {
		in.Pixels = append(in.Pixels, of(uint8(i), uint8(2*i), uint8(200-i), uint8(255-i)))
	}
	for y := -3; y <= 3; y++ {
		for x := -3; x <= 3; x++ {
			expectPixels(t, offset(x, y), in, origin, in.Pixels[(3-x)+7*(3-y)])
		}
	}
	row := greys(box(0, 0, 4, 1), 1, 2, 3, 4)
	expectPixels(t, offset(1, 0), row, box(1, 0, 5, 1), row.Pixels...)
	expectPixels(t, offset(-2, 0), row, box(-2, 0, 1, 1), grey(1), grey(2), grey(3))
	column := greys(box(0, 0, 1, 4), 1, 2, 3, 4)
	expectPixels(t, offset(0, 3), column, box(0, 3, 1, 7), column.Pixels...)
	expectPixels(t, offset(0, -1), column, box(0, 1, 1, 3), grey(3), grey(4))
	expectPixels(t, offset(2, -1), imageOf(box(0, 0, 2, 2), of(1, 2, 3, 4), of(5, 6, 7, 0), of(8, 9, 10, 0), of(11, 12, 13, 255)), box(2, -1, 4, 1), of(1, 2, 3, 4), api.Pixel{}, api.Pixel{}, of(11, 12, 13, 255))
}

// P13.3: many images under filters of all kinds, against the definition.
func TestManyImages(t *testing.T) {
	for i, f := range validFilters() {
		for seed := range 8 {
			expectModel(t, f, noise(100*i+seed, box(-9, -4, 4, 9)), box(-6, -1, 1, 6))
			expectModel(t, f, noise(100*i+seed, box(5, 6, 12, 13)), box(8, 9, 9, 10))
		}
	}
	for kind := api.Tone; kind <= api.Offset; kind++ {
		for seed := range 300 {
			f, in, r := scatteredCase(kind, seed)
			expectModel(t, f, in, r)
		}
	}
}

// P13.4: what Local says of a filter is so: a pixel alone has the output that it has among others.
func TestLocalFilters(t *testing.T) {
	r := box(-4, -4, 6, 6)
	for i, f := range validFilters() {
		if !filter.Local(f) {
			continue
		}
		in := noise(i, r)
		for y := r.Y0; y < r.Y1; y++ {
			for x := r.X0; x < r.X1; x++ {
				at := box(x, y, x+1, y+1)
				want, _ := filter.Apply(f, in, at)
				expectPixels(t, f, imageOf(at, lookUp(in, x, y)), at, want.Pixels...)
			}
		}
	}
}

// P13.4: what Clear says of a filter is so: transparent pixels, whatever colours they have, become transparent ones.
func TestClearFilters(t *testing.T) {
	r := box(0, 0, 3, 2)
	for i, f := range validFilters() {
		in := noise(i, box(-3, -3, 6, 5))
		for j := range in.Pixels {
			in.Pixels[j].A = 0
		}
		expectPixels(t, f, in, r, make([]api.Pixel, 6)...)
	}
}
