package filter_test

import (
	"slices"
	"testing"

	"gouache/api"
	"gouache/filter"
)

// apply filters an image, which must succeed.
func apply(t *testing.T, f api.Filter, in api.Image, r api.Rect) api.Image {
	t.Helper()
	m, err := filter.Apply(f, in, r)
	if err != api.OK {
		t.Fatalf("Apply of %v to an image of %v in %v returns the error %d", f, in.Rect, r, err)
	}
	return m
}

// P13.7: a moved input has the moved output.
func TestFiltersAreTranslationInvariant(t *testing.T) {
	r, outer := box(-2, -1, 3, 2), box(-6, -5, 7, 6)
	for i, f := range validFilters() {
		in := noise(i, outer)
		want := apply(t, f, in, r)
		for _, by := range []api.Point{{X: 1}, {Y: -1}, {X: 1000, Y: 77}, {X: -bound + 6, Y: bound - 6}, {X: bound - 7, Y: -bound + 5}} {
			expectPixels(t, f, imageOf(moved(outer, by.X, by.Y, by.X, by.Y), in.Pixels...), moved(r, by.X, by.Y, by.X, by.Y), want.Pixels...)
		}
	}
}

// P13.7: what the input has outside of Need, and how far it reaches, does not matter.
func TestFiltersDependOnNeedOnly(t *testing.T) {
	for i, f := range validFilters() {
		in := noise(i, box(-9, -9, 9, 9))
		for _, r := range []api.Rect{origin, box(-3, -2, 1, 4), box(-6, -6, 6, 6)} {
			want := apply(t, f, in, r)
			need := filter.Need(f, r)
			other := noise(i+1000, in.Rect)
			cut := api.Image{Rect: need}
			for y := need.Y0; y < need.Y1; y++ {
				for x := need.X0; x < need.X1; x++ {
					other.Pixels[(y+9)*18+x+9] = lookUp(in, x, y)
					cut.Pixels = append(cut.Pixels, lookUp(in, x, y))
				}
			}
			expectPixels(t, f, other, r, want.Pixels...)
			expectPixels(t, f, cut, r, want.Pixels...)
		}
	}
}

// P13.7: changes of the input in a rectangle change the output in Spread only.
func TestFiltersSpreadChanges(t *testing.T) {
	outer, inner := box(-10, -10, 11, 11), box(-7, -7, 8, 8)
	for i, f := range validFilters() {
		in := noise(i, outer)
		before := apply(t, f, in, inner)
		for _, c := range []api.Rect{origin, box(-2, 1, 3, 2), box(-7, -7, -5, 8), box(5, 7, 9, 10)} {
			changed := imageOf(outer, slices.Clone(in.Pixels)...)
			other := noise(i+1000, outer)
			for y := c.Y0; y < c.Y1; y++ {
				for x := c.X0; x < c.X1; x++ {
					changed.Pixels[(y+10)*21+x+10] = lookUp(other, x, y)
				}
			}
			after, spread := apply(t, f, changed, inner), filter.Spread(f, c)
			for y := inner.Y0; y < inner.Y1; y++ {
				for x := inner.X0; x < inner.X1; x++ {
					inside := spread.X0 <= x && x < spread.X1 && spread.Y0 <= y && y < spread.Y1
					if lookUp(before, x, y) != lookUp(after, x, y) && !inside {
						t.Fatalf("%v: a change in %v changes (%d, %d), which is not in %v", f, c, x, y, spread)
					}
				}
			}
		}
	}
}

// P13.7: each pixel of Need may matter, so that no smaller rectangle would do.
func TestFiltersNeedAllOfNeed(t *testing.T) {
	for _, f := range validFilters() {
		need, _ := areas(f, origin)
		for i := range points(need) {
			dark, light := filled(need, of(0, 0, 0, 255)), filled(need, of(255, 255, 255, 255))
			dark.Pixels[i], light.Pixels[i] = light.Pixels[i], dark.Pixels[i]
			// A median needs half of the window to be light; other filters with a window need one pixel.
			switch f.Kind {
			case api.Dilate:
				expectPixels(t, f, dark, origin, grey(255))
			case api.Erode:
				expectPixels(t, f, light, origin, grey(0))
			case api.Median:
				half := filled(need, grey(0))
				for j := range points(need) / 2 {
					half.Pixels[(i+1+j)%points(need)] = grey(255)
				}
				expectPixels(t, f, half, origin, grey(0))
				half.Pixels[i] = grey(255)
				expectPixels(t, f, half, origin, grey(255))
			case api.Offset:
				expectPixels(t, f, dark, origin, grey(255))
			}
		}
	}
}

// inverted returns an image with the values of its colour channels inverted.
func inverted(m api.Image) api.Image {
	m.Pixels = slices.Clone(m.Pixels)
	for i, p := range m.Pixels {
		m.Pixels[i] = of(255-p.R, 255-p.G, 255-p.B, p.A)
	}
	return m
}

// P13.7: in an opaque image, erosion and dilation are dual under inversion, and so is the median to itself.
func TestErodeAndDilateAreDual(t *testing.T) {
	r := box(-4, -3, 5, 4)
	for seed := range 60 {
		in := noise(seed, box(-7, -6, 8, 7))
		for i := range in.Pixels {
			in.Pixels[i].A = 255
		}
		radius := seed % 4
		for _, kinds := range [][2]int{{api.Erode, api.Dilate}, {api.Dilate, api.Erode}, {api.Median, api.Median}} {
			want := inverted(apply(t, ofKind(kinds[0], radius), in, r))
			expectPixels(t, ofKind(kinds[1], radius), inverted(in), r, want.Pixels...)
		}
	}
}

// P13.7: constant images under filters that choose among equal values, or take a mean of them.
func TestConstantImages(t *testing.T) {
	for radius := range 4 {
		for _, p := range []api.Pixel{of(0, 0, 0, 255), of(1, 2, 3, 4), of(255, 128, 0, 1), of(7, 7, 7, 0), {}} {
			in := filled(box(-3, -3, 6, 5), p)
			want := filled(box(0, 0, 3, 2), fromChannels(channelsOf(p))).Pixels
			for _, kind := range kindsWithRadius {
				expectPixels(t, ofKind(kind, radius), in, box(0, 0, 3, 2), want...)
			}
			size := (2*radius + 1) * (2*radius + 1)
			expectPixels(t, even(radius, size, 1), in, box(0, 0, 3, 2), want...)
			expectPixels(t, even(radius, 4096*size, 4096), in, box(0, 0, 3, 2), want...)
		}
	}
}

// P13.7: a central entry that equals the divisor, and other filters that change nothing, on clean images.
func TestIdentities(t *testing.T) {
	for seed := range 40 {
		r := box(-4, -3, 5, 4)
		in := noise(seed, box(-7, -6, 8, 7))
		var want []api.Pixel
		for y := r.Y0; y < r.Y1; y++ {
			for x := r.X0; x < r.X1; x++ {
				want = append(want, lookUpClean(in, x, y))
			}
		}
		for radius := range 4 {
			size := (2*radius + 1) * (2*radius + 1)
			for _, n := range []int{1, 2, 3, 255, 4095, 4096} {
				expectPixels(t, single(radius, n, size/2, n), in, r, want...)
			}
		}
		for _, f := range []api.Filter{ofKind(api.Median, 0), ofKind(api.Erode, 0), ofKind(api.Dilate, 0), offset(0, 0), tone(0, 65535)} {
			expectPixels(t, f, in, r, want...)
		}
		once := apply(t, ofKind(api.Invert, 0), in, in.Rect)
		expectPixels(t, ofKind(api.Invert, 0), once, r, want...)
		there := apply(t, offset(3, -2), in, moved(r, 3, -2, 3, -2))
		expectPixels(t, offset(-3, 2), there, r, want...)
	}
}

// P13.7: the parts of a result are the results of the parts.
func TestPartsOfResults(t *testing.T) {
	r := box(-3, -2, 4, 3)
	for i, f := range validFilters() {
		in := noise(i, box(-6, -5, 7, 6))
		whole := apply(t, f, in, r)
		for y := r.Y0; y < r.Y1; y++ {
			for x := r.X0; x < r.X1; x++ {
				expectPixels(t, f, in, box(x, y, x+1, y+1), lookUp(whole, x, y))
			}
		}
	}
}

// P1, R2, R4, R5: all calls with arbitrary filters, images and rectangles.
func FuzzFilterFollowsItsRules(f *testing.F) {
	f.Add(1, 1, 9, 0, 1, 0, []byte{}, 0, 0, 2, 2, 0)
	f.Add(1, 0, 1, 1, 255, 0, []byte{}, 0, 0, 1, 1, 0)
	f.Add(2, 3, 0, 0, 0, 0, []byte{}, -3, -3, 2, 2, 0)
	f.Add(5, 0, 0, 0, 0, 0, []byte{0, 0, 255, 255}, 0, 0, 2, 2, 0)
	f.Add(6, 0, 0, 0, 0, 0, []byte{}, 0, 0, 600, 600, 0)
	f.Add(7, 0, 0, 0, 0, 128, []byte{}, -bound, 0, bound, 1, 1)
	f.Add(8, -3, 0, 0, 0, 3, []byte{}, 1, 1, 2, 2, -1)
	f.Add(0, least, 3, greatest, 5, 6, []byte{1}, least, greatest, 5, 6, 7)
	f.Fuzz(func(t *testing.T, kind, radius, entries, entry, div, value int, points []byte, x0, y0, x1, y1, surplus int) {
		x := api.Filter{Kind: kind, Radius: radius, Div: div, Value: value}
		for i := range min(max(entries, 0), 100) {
			x.Kernel = append(x.Kernel, entry*(i%3-1))
		}
		for i := 0; i+1 < len(points) && i < 1000; i += 2 {
			x.Curve = append(x.Curve, 256*int(points[i])+int(points[i+1]))
		}
		r := box(x0, y0, x1, y1)
		expectValid(t, x, isValid(x))
		need, spread := areas(x, r)
		expectAreas(t, x, r, need, spread)
		if filter.Local(x) != (isValid(x) && need == r) && need != (api.Rect{}) {
			t.Errorf("Local of %v is %v", x, filter.Local(x))
		}
		expectBytes(t, x, serialized(x))
		in := noise(kind+value, box(-6, -6, 7, 7))
		expectModel(t, x, in, r)
		expectModel(t, x, imageOf(r), box(0, 0, 1, 1))
		if surplus != 0 {
			expectModel(t, x, imageOf(in.Rect, in.Pixels[:len(in.Pixels)-1]...), r)
			expectModel(t, x, imageOf(box(-6, -6, surplus, 7), in.Pixels...), r)
		}
	})
}
