package filter_test

import (
	"math"
	"slices"

	"gouache/api"
	"gouache/curve"
)

const (
	least    = math.MinInt
	greatest = math.MaxInt
)

// kindsWithRadius are the kinds that choose among the values in a window.
var kindsWithRadius = []int{api.Median, api.Erode, api.Dilate}

// otherKinds are numbers that are not those of kinds.
var otherKinds = []int{0, -1, 9, -8, 10, 256 + api.Invert, 1 << 32, 1<<32 + api.Invert, least, greatest}

// of returns the pixel with these channels.
func of(r, g, b, a uint8) api.Pixel {
	return api.Pixel{R: r, G: g, B: b, A: a}
}

// grey returns an opaque grey pixel.
func grey(v uint8) api.Pixel {
	return of(v, v, v, 255)
}

// box returns the rectangle with these sides.
func box(x0, y0, x1, y1 int) api.Rect {
	return api.Rect{X0: x0, Y0: y0, X1: x1, Y1: y1}
}

// imageOf returns an image with these pixels, which need not be as many as its rectangle has points.
func imageOf(r api.Rect, pixels ...api.Pixel) api.Image {
	return api.Image{Rect: r, Pixels: pixels}
}

// greys returns an image with opaque grey pixels.
func greys(r api.Rect, values ...uint8) api.Image {
	m := api.Image{Rect: r}
	for _, v := range values {
		m.Pixels = append(m.Pixels, grey(v))
	}
	return m
}

// filled returns an image of equal pixels.
func filled(r api.Rect, p api.Pixel) api.Image {
	return api.Image{Rect: r, Pixels: slices.Repeat([]api.Pixel{p}, points(r))}
}

// ofKind returns the filter of a kind with this radius and nothing else.
func ofKind(kind, radius int) api.Filter {
	return api.Filter{Kind: kind, Radius: radius}
}

// kernel returns a convolution.
func kernel(radius, div int, entries ...int) api.Filter {
	return api.Filter{Kind: api.Convolve, Radius: radius, Kernel: entries, Div: div}
}

// even returns a convolution whose entries are equal, such as a box blur.
func even(radius, div, entry int) api.Filter {
	return kernel(radius, div, slices.Repeat([]int{entry}, (2*radius+1)*(2*radius+1))...)
}

// single returns a convolution whose only entry that is not zero is at an index.
func single(radius, div, index, entry int) api.Filter {
	f := even(radius, div, 0)
	f.Kernel[index] = entry
	return f
}

// tone returns a filter with the curve of these points.
func tone(points ...int) api.Filter {
	return api.Filter{Kind: api.Tone, Curve: points}
}

// threshold returns a threshold filter.
func threshold(value int) api.Filter {
	return api.Filter{Kind: api.Threshold, Value: value}
}

// offset returns the filter that moves an image to the right and downwards.
func offset(x, y int) api.Filter {
	return api.Filter{Kind: api.Offset, Radius: x, Value: y}
}

// validFilters returns filters of all kinds, in all sizes.
func validFilters() []api.Filter {
	square, _ := curve.Gamma(2, 1, 257)
	filters := []api.Filter{
		ofKind(api.Invert, 0), {Kind: api.Invert, Kernel: []int{}, Curve: api.Curve{}},
		tone(0, 65535), tone(0, 0), tone(65535, 65535), tone(0, 0, 65535, 65535), tone(20000, 30000, 30000), {Kind: api.Tone, Curve: square}, {Kind: api.Tone, Curve: curve.Line(256)},
		threshold(0), threshold(1), threshold(128), threshold(255), threshold(256),
		kernel(1, 1, 0, -1, 0, -1, 5, -1, 0, -1, 0), kernel(1, 16, 1, 2, 1, 2, 4, 2, 1, 2, 1), kernel(1, 3, -2, -1, 0, -1, 1, 1, 0, 1, 4),
	}
	for radius := range 4 {
		for _, kind := range kindsWithRadius {
			filters = append(filters, ofKind(kind, radius))
		}
		size := (2*radius + 1) * (2*radius + 1)
		filters = append(filters, even(radius, size, 1), even(radius, 1<<20, 4096), even(radius, 1, -4096), even(radius, 1, 0), even(radius, 1, 4096), single(radius, 7, size/2, 7), single(radius, 2, 0, 1), single(radius, 3, size-1, 4))
	}
	for y := -3; y <= 3; y++ {
		for x := -3; x <= 3; x++ {
			filters = append(filters, offset(x, y))
		}
	}
	return filters
}

// invalidFilters returns filters of all kinds, and of none, that are not valid.
func invalidFilters() []api.Filter {
	filters := []api.Filter{
		ofKind(api.Convolve, 0), kernel(0, 0, 1), kernel(0, -1, 1), kernel(0, 1<<20+1, 1), kernel(0, 1), kernel(0, 1, 1, 1), kernel(0, 1, 4097), kernel(0, 1, -4097), kernel(4, 1, make([]int, 81)...), kernel(-1, 1, 1),
		{Kind: api.Convolve, Kernel: []int{1}, Div: 1, Value: 1}, {Kind: api.Convolve, Kernel: []int{1}, Div: 1, Curve: curve.Line(2)},
		{Kind: api.Tone}, tone(1), tone(2, 1), tone(-1, 5), tone(0, 65536), {Kind: api.Tone, Radius: 1, Curve: curve.Line(2)}, {Kind: api.Tone, Curve: make(api.Curve, 258)},
		ofKind(api.Invert, 1), {Kind: api.Invert, Value: 1}, {Kind: api.Invert, Div: 1}, {Kind: api.Invert, Kernel: []int{0}}, {Kind: api.Invert, Curve: curve.Line(2)},
		threshold(-1), threshold(257), {Kind: api.Threshold, Radius: 1},
		offset(4, 0), offset(0, 4), offset(-4, 0), offset(0, -4), {Kind: api.Offset, Div: 1},
	}
	for _, kind := range kindsWithRadius {
		filters = append(filters, ofKind(kind, -1), ofKind(kind, 4), api.Filter{Kind: kind, Value: 1}, api.Filter{Kind: kind, Div: 1}, api.Filter{Kind: kind, Kernel: []int{1}, Div: 1})
	}
	for _, kind := range otherKinds {
		filters = append(filters, ofKind(kind, 0))
	}
	return filters
}

// scatter returns a function that returns integers from 0 to n - 1 without a visible order, others for each seed.
func scatter(seed int) func(n int) int {
	state := uint64(seed)*0x9E3779B97F4A7C15 + 1
	return func(n int) int {
		state = state*6364136223846793005 + 1442695040888963407
		return int(state >> 33 % uint64(n))
	}
}

// noise returns an image without a visible order. Some of its pixels are opaque, and some transparent, the latter with colours.
func noise(seed int, r api.Rect) api.Image {
	return noiseFrom(scatter(seed), r)
}

// noiseFrom returns an image of the next numbers.
func noiseFrom(next func(n int) int, r api.Rect) api.Image {
	m := api.Image{Rect: r, Pixels: make([]api.Pixel, points(r))}
	for i := range m.Pixels {
		alpha := 0
		switch next(4) {
		case 0:
		case 1:
			alpha = 255
		default:
			alpha = next(256)
		}
		m.Pixels[i] = of(uint8(next(256)), uint8(next(256)), uint8(next(256)), uint8(alpha))
	}
	return m
}

// scatteredFilter returns a valid filter of a kind, made of the next numbers.
func scatteredFilter(kind int, next func(n int) int) api.Filter {
	f := api.Filter{Kind: kind}
	switch kind {
	case api.Convolve:
		f.Radius = next(4)
		span := []int{3, 20, 8193}[next(3)]
		for range (2*f.Radius + 1) * (2*f.Radius + 1) {
			f.Kernel = append(f.Kernel, min(next(span)-span/3, 4096))
		}
		f.Div = 1 + next(3*span)
	case api.Median, api.Erode, api.Dilate:
		f.Radius = next(4)
	case api.Tone:
		for range 2 + next(256) {
			f.Curve = append(f.Curve, next(65536))
		}
		slices.Sort(f.Curve)
	case api.Threshold:
		f.Value = next(257)
	case api.Offset:
		f.Radius, f.Value = next(7)-3, next(7)-3
	}
	return f
}

// scatteredCase returns a filter of a kind, a rectangle, and an input that is large enough for them.
func scatteredCase(kind, seed int) (api.Filter, api.Image, api.Rect) {
	next := scatter(1000*kind + seed)
	f := scatteredFilter(kind, next)
	x, y := next(41)-20, next(41)-20
	r := box(x, y, x+1+next(6), y+1+next(6))
	margin := 3 + next(3)
	return f, noiseFrom(next, box(r.X0-margin, r.Y0-margin, r.X1+margin, r.Y1+margin)), r
}
