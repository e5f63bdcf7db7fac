package filter_test

import (
	"encoding/binary"
	"math"
	"slices"
	"testing"

	"gouache/api"
	"gouache/curve"
	"gouache/filter"
)

// serialized returns the bytes of a filter, as P13.5 says them.
func serialized(f api.Filter) string {
	all := slices.Concat([]int{f.Kind, f.Radius, len(f.Kernel)}, f.Kernel, []int{f.Div, f.Value, len(f.Curve)}, f.Curve)
	var encoded []byte
	for _, n := range all {
		encoded = binary.AppendUvarint(encoded, uint64(n))
	}
	return string(encoded)
}

// deserialized returns the filter with these bytes, and whether there is one.
func deserialized(s string) (api.Filter, bool) {
	rest, complete := []byte(s), true
	number := func() int {
		n, used := binary.Uvarint(rest)
		rest, complete = rest[max(used, 0):], complete && used > 0
		return int(n)
	}
	list := func() []int {
		var all []int
		for range number() {
			all = append(all, number())
		}
		return all
	}
	f := api.Filter{Kind: number(), Radius: number()}
	f.Kernel = list()
	f.Div, f.Value = number(), number()
	f.Curve = list()
	return f, complete && len(rest) == 0
}

// expectBytes reports other bytes of a filter, and a filter that is not as it was.
func expectBytes(t *testing.T, f api.Filter, want string) {
	t.Helper()
	before := copyOf(f)
	for range 2 {
		if got := filter.Bytes(f); got != want {
			t.Errorf("Bytes of %v is %q, not %q", f, got, want)
		}
	}
	if !isSame(f, before) {
		t.Errorf("Bytes changes %v", before)
	}
}

// P13.5: filters of each kind.
func TestBytes(t *testing.T) {
	expectBytes(t, threshold(128), "\x07\x00\x00\x00\x80\x01\x00")
	expectBytes(t, ofKind(api.Invert, 0), "\x06\x00\x00\x00\x00\x00")
	expectBytes(t, ofKind(api.Median, 3), "\x02\x03\x00\x00\x00\x00")
	expectBytes(t, ofKind(api.Erode, 1), "\x03\x01\x00\x00\x00\x00")
	expectBytes(t, ofKind(api.Dilate, 2), "\x04\x02\x00\x00\x00\x00")
	expectBytes(t, kernel(0, 1<<20, 4096), "\x01\x00\x01\x80\x20\x80\x80\x40\x00\x00")
	expectBytes(t, kernel(1, 200, 1, 2, 3, 4, 5, 6, 7, 8, 300), "\x01\x01\x09\x01\x02\x03\x04\x05\x06\x07\x08\xac\x02\xc8\x01\x00\x00")
	expectBytes(t, tone(0, 127, 128, 65535), "\x05\x00\x00\x00\x00\x04\x00\x7f\x80\x01\xff\xff\x03")
	expectBytes(t, offset(1, 3), "\x08\x01\x00\x00\x03\x00")
}

// P13.5: negative numbers are encoded in two's complement.
func TestBytesOfNegativeNumbers(t *testing.T) {
	const minusOne, minusThree = "\xff\xff\xff\xff\xff\xff\xff\xff\xff\x01", "\xfd\xff\xff\xff\xff\xff\xff\xff\xff\x01"
	expectBytes(t, offset(-1, -3), "\x08"+minusOne+"\x00\x00"+minusThree+"\x00")
	expectBytes(t, kernel(0, 1, -3), "\x01\x00\x01"+minusThree+"\x01\x00\x00")
	expectBytes(t, kernel(1, 1, 0, -1, 0, -1, 5, -1, 0, -1, 0), "\x01\x01\x09\x00"+minusOne+"\x00"+minusOne+"\x05"+minusOne+"\x00"+minusOne+"\x00\x01\x00\x00")
	expectBytes(t, api.Filter{Kind: -1, Radius: -3, Kernel: []int{-1}, Div: -3, Value: -1, Curve: api.Curve{-3}}, minusOne+minusThree+"\x01"+minusOne+minusThree+minusOne+"\x01"+minusThree)
}

// P13.5: filters that are not valid, with numbers at the limits of integers and with long lists.
func TestBytesOfInvalidFilters(t *testing.T) {
	expectBytes(t, api.Filter{}, "\x00\x00\x00\x00\x00\x00")
	expectBytes(t, api.Filter{Kind: 1, Radius: 2, Kernel: []int{3, 4}, Div: 5, Value: 6, Curve: api.Curve{7, 8, 9}}, "\x01\x02\x02\x03\x04\x05\x06\x03\x07\x08\x09")
	expectBytes(t, api.Filter{Kind: math.MaxInt, Radius: math.MinInt, Div: 1 << 7, Value: 1<<14 - 1}, "\xff\xff\xff\xff\xff\xff\xff\xff\x7f\x80\x80\x80\x80\x80\x80\x80\x80\x80\x01\x00\x80\x01\xff\x7f\x00")
	for _, f := range invalidFilters() {
		expectBytes(t, f, serialized(f))
	}
	for _, n := range []int{1, 100, 127, 128, 129, 300, 20000} {
		expectBytes(t, api.Filter{Kernel: make([]int, n)}, serialized(api.Filter{Kernel: make([]int, n)}))
		expectBytes(t, api.Filter{Curve: make(api.Curve, n)}, serialized(api.Filter{Curve: make(api.Curve, n)}))
		f := api.Filter{Kind: n, Radius: -n, Kernel: curve.Line(min(n, 257)), Div: n * n, Value: n + 1, Curve: slices.Repeat([]int{n}, n)}
		expectBytes(t, f, serialized(f))
	}
}

// P13.5, R1: lists that are nil, and empty ones.
func TestBytesOfEmptyLists(t *testing.T) {
	for _, f := range []api.Filter{ofKind(api.Invert, 0), offset(1, -1), {}, kernel(0, 1, 1), tone(0, 1)} {
		want := serialized(f)
		if len(f.Kernel) == 0 {
			f.Kernel = []int{}
		}
		if len(f.Curve) == 0 {
			f.Curve = api.Curve{}
		}
		expectBytes(t, f, want)
	}
}

// P13.5: filters of all kinds.
func TestBytesOfValidFilters(t *testing.T) {
	for _, f := range validFilters() {
		expectBytes(t, f, serialized(f))
	}
	for kind := range 10 {
		for seed := range 200 {
			f := scatteredFilter(kind, scatter(1000*kind+seed))
			expectBytes(t, f, serialized(f))
		}
	}
}

// P13.7: the bytes tell the filter.
func TestBytesTellFilters(t *testing.T) {
	filters := append(validFilters(), invalidFilters()...)
	for kind := range 10 {
		for seed := range 20 {
			filters = append(filters, scatteredFilter(kind, scatter(1000*kind+seed)))
		}
	}
	// Numbers that move from one field or list to the next one.
	filters = append(filters,
		api.Filter{Kernel: []int{1}}, api.Filter{Curve: api.Curve{1}}, api.Filter{Div: 1}, api.Filter{Value: 1}, api.Filter{Radius: 1}, api.Filter{Kernel: []int{0}}, api.Filter{Kernel: []int{0, 0}}, api.Filter{Curve: api.Curve{0}}, api.Filter{Curve: api.Curve{0, 0}},
		api.Filter{Kernel: []int{1, 0}}, api.Filter{Kernel: []int{1}, Div: 0, Value: 1}, api.Filter{Kernel: []int{128}}, api.Filter{Kernel: []int{0, 1}}, api.Filter{Radius: 128}, api.Filter{Radius: 1, Kernel: []int{1}}, api.Filter{Radius: 1, Kernel: []int{1, 1}}, api.Filter{Radius: 2, Kernel: []int{1, 1}},
	)
	for i, f := range filters {
		got, complete := deserialized(filter.Bytes(f))
		if !complete || !isSame(got, f) {
			t.Errorf("the bytes of %v are those of %v", f, got)
		}
		for _, g := range filters[:i] {
			if (filter.Bytes(f) == filter.Bytes(g)) != isSame(f, g) {
				t.Errorf("Bytes of %v and %v: %q and %q", f, g, filter.Bytes(f), filter.Bytes(g))
			}
		}
	}
}
