package filter_test

import (
	"slices"
	"testing"

	"gouache/api"
	"gouache/curve"
	"gouache/filter"
)

// withFields returns a filter, each time with one of these numbers in a field.
func withFields(f api.Filter, field func(f *api.Filter) *int, values ...int) []api.Filter {
	var filters []api.Filter
	for _, v := range values {
		changed := copyOf(f)
		*field(&changed) = v
		filters = append(filters, changed)
	}
	return filters
}

func radiusOf(f *api.Filter) *int { return &f.Radius }
func divOf(f *api.Filter) *int    { return &f.Div }
func valueOf(f *api.Filter) *int  { return &f.Value }

// expectAllValid reports filters of which Valid or Clear says something else.
func expectAllValid(t *testing.T, want bool, filters ...api.Filter) {
	t.Helper()
	for _, f := range filters {
		expectValid(t, f, want)
	}
}

// unusedFields returns numbers that a field that is not used must not have.
func unusedFields() []int {
	return []int{1, -1, 2, 3, 256, -4096, 1 << 32, least, greatest}
}

// P13.1: the radius of a convolution, with as many entries as it asks for, and with any other number of them.
func TestValidKernels(t *testing.T) {
	for radius := range 4 {
		size := (2*radius + 1) * (2*radius + 1)
		for n := range 100 {
			expectValid(t, kernel(radius, 1, make([]int, n)...), n == size)
		}
	}
	for _, radius := range []int{-1, 4, -2, -4, 5, 100, 1 << 31, 1<<63 - 2, least, least + 1, greatest, 1 << 62} {
		for _, n := range []int{0, 1, 9, 25, 49, 81, 121, 49 * 4} {
			expectValid(t, kernel(radius, 1, make([]int, n)...), false)
		}
	}
}

// P13.1: each entry of a kernel, from the first to the last one.
func TestValidEntries(t *testing.T) {
	for radius := range 4 {
		for i := range (2*radius + 1) * (2*radius + 1) {
			expectAllValid(t, true, single(radius, 1, i, 4096), single(radius, 1, i, -4096), single(radius, 1, i, 1))
			expectAllValid(t, false, single(radius, 1, i, 4097), single(radius, 1, i, -4097), single(radius, 1, i, least), single(radius, 1, i, greatest), single(radius, 1, i, 1<<32))
		}
		expectAllValid(t, true, even(radius, 1, 4096), even(radius, 1, -4096), even(radius, 1, 0))
	}
}

// P13.1: the divisor of a convolution, and the fields that it does not use.
func TestValidConvolution(t *testing.T) {
	for _, f := range []api.Filter{even(0, 1, 1), even(1, 1, 1), even(3, 1, -1)} {
		expectAllValid(t, true, withFields(f, divOf, 1, 2, 1<<20-1, 1<<20)...)
		expectAllValid(t, false, withFields(f, divOf, 0, -1, 1<<20+1, -1<<20, 1<<32+1, least, greatest)...)
		expectAllValid(t, false, withFields(f, valueOf, unusedFields()...)...)
		f.Curve = api.Curve{}
		expectValid(t, f, true)
		for _, c := range []api.Curve{{0}, {0, 0}, curve.Line(2), {2, 1}} {
			f.Curve = c
			expectValid(t, f, false)
		}
	}
}

// P13.1: median, erosion and dilation use a radius only.
func TestValidKindsWithRadius(t *testing.T) {
	for _, kind := range kindsWithRadius {
		expectAllValid(t, true, withFields(ofKind(kind, 0), radiusOf, 0, 1, 2, 3)...)
		expectAllValid(t, false, withFields(ofKind(kind, 0), radiusOf, -1, 4, -3, 5, 1<<32, least, greatest)...)
		for radius := range 4 {
			f := ofKind(kind, radius)
			expectAllValid(t, false, withFields(f, divOf, unusedFields()...)...)
			expectAllValid(t, false, withFields(f, valueOf, unusedFields()...)...)
			f.Kernel, f.Curve = []int{}, api.Curve{}
			expectValid(t, f, true)
			f.Kernel = make([]int, (2*radius+1)*(2*radius+1))
			expectValid(t, f, false)
			f.Kernel, f.Curve = nil, curve.Line(2)
			expectValid(t, f, false)
			f.Curve = api.Curve{0}
			expectValid(t, f, false)
		}
	}
}

// P13.1: a tone curve of every length, and with points of all values; it uses nothing else.
func TestValidTone(t *testing.T) {
	for n := range 300 {
		expectValid(t, api.Filter{Kind: api.Tone, Curve: make(api.Curve, n)}, n >= 2 && n <= 257)
	}
	expectAllValid(t, true, tone(0, 65535), tone(65535, 65535), tone(0, 0, 0), tone(5, 5, 6, 65535), api.Filter{Kind: api.Tone, Curve: curve.Line(257), Kernel: []int{}})
	expectAllValid(t, false, tone(), tone(5), tone(-1, 0), tone(0, 65536), tone(1, 0), tone(0, 2, 1, 3), tone(0, 1, 2, 1), tone(least, greatest), tone(0, greatest), tone(least, 0))
	f := tone(0, 65535)
	expectAllValid(t, false, withFields(f, radiusOf, unusedFields()...)...)
	expectAllValid(t, false, withFields(f, divOf, unusedFields()...)...)
	expectAllValid(t, false, withFields(f, valueOf, unusedFields()...)...)
	f.Kernel = []int{0}
	expectValid(t, f, false)
}

// P13.1: an inversion uses no field.
func TestValidInvert(t *testing.T) {
	f := ofKind(api.Invert, 0)
	expectAllValid(t, true, f, api.Filter{Kind: api.Invert, Kernel: []int{}, Curve: api.Curve{}})
	expectAllValid(t, false, withFields(f, radiusOf, unusedFields()...)...)
	expectAllValid(t, false, withFields(f, divOf, unusedFields()...)...)
	expectAllValid(t, false, withFields(f, valueOf, unusedFields()...)...)
	expectAllValid(t, false, api.Filter{Kind: api.Invert, Kernel: []int{0}}, api.Filter{Kind: api.Invert, Curve: api.Curve{0}}, api.Filter{Kind: api.Invert, Curve: curve.Line(2)}, api.Filter{Kind: api.Invert, Kernel: []int{1}, Div: 1})
}

// P13.1: a threshold uses a value only.
func TestValidThreshold(t *testing.T) {
	for v := -3; v < 300; v++ {
		expectValid(t, threshold(v), v >= 0 && v <= 256)
	}
	expectAllValid(t, false, threshold(1<<32), threshold(least), threshold(greatest))
	f := threshold(128)
	expectAllValid(t, false, withFields(f, radiusOf, unusedFields()...)...)
	expectAllValid(t, false, withFields(f, divOf, unusedFields()...)...)
	f.Kernel = []int{0}
	expectValid(t, f, false)
	f.Kernel, f.Curve = []int{}, api.Curve{0}
	expectValid(t, f, false)
}

// P13.1: an offset uses a radius and a value, both of which may be negative.
func TestValidOffset(t *testing.T) {
	for x := -6; x <= 6; x++ {
		for y := -6; y <= 6; y++ {
			expectValid(t, offset(x, y), x*x <= 9 && y*y <= 9)
		}
	}
	for _, n := range []int{1 << 32, least, greatest} {
		expectAllValid(t, false, offset(n, 0), offset(0, n), offset(n, n))
	}
	f := offset(-3, 3)
	expectAllValid(t, false, withFields(f, divOf, unusedFields()...)...)
	f.Kernel = []int{0}
	expectValid(t, f, false)
	f.Kernel, f.Curve = []int{}, api.Curve{0}
	expectValid(t, f, false)
}

// P13.1: kinds that do not exist, with the fields of those that do.
func TestValidKinds(t *testing.T) {
	for _, f := range slices.Concat(validFilters(), invalidFilters()) {
		for _, kind := range otherKinds {
			f.Kind = kind
			expectValid(t, f, false)
		}
		for kind := range 10 {
			f.Kind = kind
			expectValid(t, f, isValid(f))
		}
	}
	expectValid(t, api.Filter{}, false)
}

// P13.1: the filters that other tests use.
func TestValidOfSamples(t *testing.T) {
	expectAllValid(t, true, validFilters()...)
	expectAllValid(t, false, invalidFilters()...)
}

// P13.4: the kinds without a window, and those whose window is one pixel.
func TestLocal(t *testing.T) {
	for _, f := range []api.Filter{
		tone(0, 65535), tone(5, 6, 7), ofKind(api.Invert, 0), threshold(0), threshold(1), threshold(3), threshold(256),
		kernel(0, 1, 1), kernel(0, 7, -4096), ofKind(api.Median, 0), ofKind(api.Erode, 0), ofKind(api.Dilate, 0), offset(0, 0),
	} {
		if !filter.Local(f) {
			t.Errorf("Local of %v is false", f)
		}
	}
	for _, f := range validFilters() {
		hasWindow := f.Kind <= api.Dilate
		isMoved := f.Kind == api.Offset && (f.Radius != 0 || f.Value != 0)
		if filter.Local(f) == (hasWindow && f.Radius > 0 || isMoved) {
			t.Errorf("Local of %v is %v", f, filter.Local(f))
		}
	}
}

// P13.4: a kernel or an offset that leaves the other pixels out is not local, if its radius says otherwise.
func TestLocalIsSaidOfRadius(t *testing.T) {
	for _, f := range []api.Filter{single(1, 1, 4, 1), even(2, 1, 0), single(3, 5, 24, 5), ofKind(api.Median, 1), ofKind(api.Erode, 3), ofKind(api.Dilate, 2), offset(1, 0), offset(0, 1), offset(-1, 0), offset(0, -1), offset(1, -1), offset(3, 3)} {
		if filter.Local(f) || !filter.Clear(f) {
			t.Errorf("Local of %v is %v, and Clear is %v", f, filter.Local(f), filter.Clear(f))
		}
	}
}

// P13.4: filters that are not valid are neither local nor clear.
func TestLocalOfInvalidFilters(t *testing.T) {
	for _, f := range invalidFilters() {
		if filter.Local(f) || filter.Clear(f) {
			t.Errorf("Local of %v is %v, and Clear is %v", f, filter.Local(f), filter.Clear(f))
		}
	}
}
