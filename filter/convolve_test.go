package filter_test

import (
	"slices"
	"testing"

	"gouache/api"
)

// origin is the rectangle of one pixel.
var origin = box(0, 0, 1, 1)

// around returns the rectangle of the window of the origin.
func around(radius int) api.Rect {
	return box(-radius, -radius, radius+1, radius+1)
}

// expectOne reports another pixel at the origin, given the pixels in its window.
func expectOne(t *testing.T, f api.Filter, want api.Pixel, window ...api.Pixel) {
	t.Helper()
	side := 1
	for side*side < len(window) {
		side++
	}
	expectPixels(t, f, imageOf(around(side/2), window...), origin, want)
}

// P13.3: the example of the chapter: a box blur of a white pixel.
func TestConvolveExample(t *testing.T) {
	in := filled(around(1), api.Pixel{})
	in.Pixels[4] = of(255, 255, 255, 255)
	expectPixels(t, even(1, 9, 1), in, origin, of(255, 255, 255, 28))
}

// P13.3: each entry belongs to the pixel at its own position of the window, row by row from the top left.
func TestConvolveTakesEntriesInOrder(t *testing.T) {
	for radius := range 4 {
		side := 2*radius + 1
		in := api.Image{Rect: around(radius)}
		for i := range side * side {
			in.Pixels = append(in.Pixels, of(uint8(i), uint8(100+i), uint8(255-i), uint8(1+4*i)))
		}
		for i := range side * side {
			expectPixels(t, single(radius, 1, i, 1), in, origin, in.Pixels[i])
		}
		// The first entries of each row: the column to the left.
		f := even(radius, side, 0)
		for row := range side {
			f.Kernel[row*side] = 1
		}
		expectModel(t, f, in, origin)
	}
	in := greys(around(1), 10, 20, 30, 40, 50, 60, 70, 80, 90)
	expectPixels(t, kernel(1, 1, 1, -1, 0, 0, 1, 0, 0, 0, 0), in, origin, grey(40))
	expectPixels(t, kernel(1, 1, 0, 0, 0, 0, 1, -1, 0, 0, 1), in, origin, grey(80))
}

// P13.3: the sum of the kernel that belongs to a blur or a sharpening, and negative entries.
func TestConvolveOfOpaquePixels(t *testing.T) {
	window := greys(around(1), 10, 20, 30, 40, 50, 60, 70, 80, 95).Pixels
	expectOne(t, even(1, 9, 1), grey(51), window...)
	expectOne(t, kernel(1, 1, 0, -1, 0, -1, 5, -1, 0, -1, 0), grey(50), window...)
	expectOne(t, kernel(1, 16, 1, 2, 1, 2, 4, 2, 1, 2, 1), grey(50), window...)
	expectOne(t, kernel(1, 1, -1, 0, 0, 0, 0, 0, 0, 0, 2), grey(180), window...)
	colours := []api.Pixel{of(200, 0, 10, 255), of(100, 50, 10, 255), of(0, 0, 10, 255), of(1, 2, 3, 255), of(4, 5, 6, 255), of(7, 8, 9, 255), of(30, 20, 10, 255), of(1, 1, 1, 255), of(255, 254, 253, 255)}
	expectOne(t, even(1, 9, 1), of(66, 38, 35, 255), colours...)
	expectOne(t, kernel(1, 2, 1, 1, 0, 0, 0, 0, 0, 0, 0), of(150, 25, 10, 255), colours...)
}

// P13.3: colours count as much as their pixels are opaque, and those of transparent pixels not at all.
func TestConvolveWeighsColours(t *testing.T) {
	in := imageOf(around(1), of(200, 100, 0, 255), of(9, 9, 9, 0), of(9, 9, 9, 0), of(100, 0, 255, 51), of(255, 255, 255, 0), api.Pixel{}, api.Pixel{}, of(1, 1, 1, 0), of(255, 0, 0, 0))
	// The sum of the alphas is 306, and 306/9 is 34; (200*255+100*51)/306 is 183.33, 100*255/306 is 83.33, 255*51/306 is 42.5.
	expectPixels(t, even(1, 9, 1), in, origin, of(183, 83, 43, 34))
	expectPixels(t, single(1, 1, 4, 1), in, origin, api.Pixel{})
	expectPixels(t, even(1, 9, 1), imageOf(around(1), slices.Repeat([]api.Pixel{of(255, 255, 255, 0)}, 9)...), origin, api.Pixel{})
}

// P13.3: the alpha is rounded, halves upwards, and where it becomes 0, nothing is left.
func TestConvolveRoundsAlpha(t *testing.T) {
	for _, x := range []struct {
		entry, div int
		alpha      uint8
		want       uint8
	}{
		{1, 2, 1, 1}, {1, 2, 2, 1}, {1, 2, 3, 2}, {1, 2, 255, 128}, {1, 3, 1, 0}, {1, 3, 2, 1}, {1, 4, 1, 0}, {1, 4, 2, 1}, {1, 4, 5, 1}, {1, 4, 6, 2}, {1, 4, 7, 2},
		{3, 2, 1, 2}, {3, 4, 1, 1}, {1, 510, 255, 1}, {1, 511, 255, 0}, {1, 509, 255, 1}, {1, 1 << 20, 255, 0}, {4096, 1 << 20, 127, 0}, {4096, 1 << 20, 128, 1}, {4096, 1 << 20, 255, 1}, {2, 3, 1, 1}, {5, 10, 1, 1}, {4, 10, 1, 0},
		{0, 1, 255, 0}, {-1, 1, 255, 0}, {-4096, 1, 255, 0}, {-4096, 1 << 20, 255, 0}, {-1, 2, 1, 0}, {-1, 2, 255, 0}, {-3, 2, 1, 0},
		{1, 1, 255, 255}, {2, 1, 127, 254}, {2, 1, 128, 255}, {2, 1, 255, 255}, {4096, 1, 1, 255}, {4096, 1, 255, 255}, {4096, 16, 1, 255}, {4095, 16, 1, 255}, {509, 2, 1, 255}, {511, 2, 1, 255}, {257, 1, 1, 255}, {256, 1, 1, 255}, {255, 1, 1, 255}, {254, 1, 1, 254}, {512, 1, 1, 255},
	} {
		want := of(10, 20, 30, x.want)
		if x.want == 0 {
			want = api.Pixel{}
		}
		expectOne(t, kernel(0, x.div, x.entry), want, of(10, 20, 30, x.alpha))
	}
}

// P13.3: the colour is rounded, halves upwards, by the sum of the weights and not by the alpha.
func TestConvolveRoundsColours(t *testing.T) {
	row := func(a, b, c int, p, q, r api.Pixel) (api.Filter, []api.Pixel) {
		return kernel(1, 1, 0, 0, 0, a, b, c, 0, 0, 0), []api.Pixel{{}, {}, {}, p, q, r, {}, {}, {}}
	}
	for _, x := range []struct {
		a, b, c int
		p, q, r api.Pixel
		want    api.Pixel
	}{
		{1, 1, 0, of(1, 2, 255, 1), of(2, 2, 254, 1), api.Pixel{}, of(2, 2, 255, 2)},
		{1, 1, 1, of(1, 0, 254, 1), of(0, 1, 255, 1), of(0, 1, 254, 1), of(0, 1, 254, 3)},
		{1, 3, 0, of(2, 6, 255, 1), of(0, 0, 0, 1), api.Pixel{}, of(1, 2, 64, 4)},
		{1, 3, 0, of(1, 3, 253, 1), of(0, 0, 0, 1), api.Pixel{}, of(0, 1, 63, 4)},
		// 3*100 - 2*200 is negative; 3*200 - 2*100 is beyond 255; 3*7 - 2*10 is 1.
		{3, -2, 0, of(100, 200, 7, 1), of(200, 100, 10, 1), api.Pixel{}, of(0, 255, 1, 1)},
		{4096, -4095, 0, of(0, 255, 100, 1), of(255, 0, 100, 1), api.Pixel{}, of(0, 255, 100, 1)},
		// The sum of the weights is 2; -1/2 is rounded to 0, as -3/2 is limited to it.
		{3, -1, 0, of(0, 1, 1, 1), of(1, 4, 6, 1), api.Pixel{}, of(0, 0, 0, 2)},
		// 510/2 is 255, 511/2 is limited to it.
		{3, -1, 0, of(170, 171, 255, 1), of(0, 2, 254, 1), api.Pixel{}, of(255, 255, 255, 2)},
		{3, -1, 0, of(170, 170, 170, 1), of(1, 2, 3, 1), api.Pixel{}, of(255, 254, 254, 2)},
		// The alpha is limited to 255, but the sum of the weights is not.
		{2, 2, 0, of(10, 20, 30, 255), of(20, 40, 61, 255), api.Pixel{}, of(15, 30, 46, 255)},
		{100, 50, 0, of(90, 3, 255, 200), of(0, 6, 255, 100), api.Pixel{}, of(72, 4, 255, 255)},
		// A sum of 0 and a negative one, whatever the colours are.
		{1, -1, 0, of(255, 0, 9, 255), of(0, 255, 9, 255), api.Pixel{}, api.Pixel{}},
		{1, -2, 1, of(255, 255, 255, 100), of(9, 9, 9, 100), of(1, 2, 3, 100), api.Pixel{}},
		{1, -3, 1, of(255, 255, 255, 100), of(9, 9, 9, 100), of(1, 2, 3, 100), api.Pixel{}},
		{-1, 2, 0, of(1, 2, 3, 200), of(255, 255, 255, 100), api.Pixel{}, api.Pixel{}},
		{-1, 2, 0, of(1, 2, 3, 199), of(255, 255, 255, 100), api.Pixel{}, of(255, 255, 255, 1)},
	} {
		f, window := row(x.a, x.b, x.c, x.p, x.q, x.r)
		expectOne(t, f, x.want, window...)
	}
}

// P13.3: the greatest sums.
func TestConvolveOfGreatSums(t *testing.T) {
	for radius := range 4 {
		size := (2*radius + 1) * (2*radius + 1)
		white := slices.Repeat([]api.Pixel{of(255, 255, 255, 255)}, size)
		expectOne(t, even(radius, 1, 4096), of(255, 255, 255, 255), white...)
		expectOne(t, even(radius, 1, -4096), api.Pixel{}, white...)
		expectOne(t, even(radius, 1<<20, -4096), api.Pixel{}, white...)
		expectOne(t, even(radius, 1<<20, 4096), of(255, 255, 255, []uint8{1, 9, 25, 49}[radius]), white...)
		expectOne(t, even(radius, 1, 0), api.Pixel{}, white...)
	}
}

// P13.3: a rectangle of several pixels, each with a window of its own.
func TestConvolveOfRects(t *testing.T) {
	in := greys(box(-1, 4, 4, 8),
		0, 0, 10, 20, 30,
		0, 0, 40, 50, 60,
		9, 9, 9, 9, 9,
		100, 110, 120, 130, 140)
	expectPixels(t, even(1, 9, 1), in, box(0, 5, 3, 7), grey(9), grey(16), grey(26), grey(44), grey(53), grey(63))
	expectPixels(t, even(0, 2, 2), in, box(3, 4, 4, 8), grey(30), grey(60), grey(9), grey(140))
	expectPixels(t, kernel(0, 2, 1), in, box(1, 6, 2, 8), of(9, 9, 9, 128), of(120, 120, 120, 128))
}

// P13.3: many convolutions, against the definition.
func TestManyConvolutions(t *testing.T) {
	visible, limited := 0, 0
	for seed := range 1500 {
		f, in, r := scatteredCase(api.Convolve, seed)
		expectModel(t, f, in, r)
		want, _ := modelled(f, in, r)
		for _, p := range want.Pixels {
			if p.A > 0 && p.A < 255 {
				visible++
			}
			if p.A > 0 && (p.R == 0 || p.G == 255) {
				limited++
			}
		}
	}
	if visible < 2000 || limited < 500 {
		t.Errorf("only %d pixels are translucent, and only %d have limited channels", visible, limited)
	}
}
