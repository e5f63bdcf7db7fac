package filter_test

import (
	"math/big"
	"slices"
	"testing"

	"gouache/api"
	"gouache/filter"
)

// limits are the values that the fields of a kind may have. The limits of a field that is not used are zero.
type limits struct {
	radius, div, value [2]int
	kernel, curve      bool
}

// limitsOf returns the limits of a kind, and whether there is such a kind.
func limitsOf(kind int) (limits, bool) {
	switch kind {
	case 1:
		return limits{radius: [2]int{0, 3}, div: [2]int{1, 1048576}, kernel: true}, true
	case 2, 3, 4:
		return limits{radius: [2]int{0, 3}}, true
	case 5:
		return limits{curve: true}, true
	case 6:
		return limits{}, true
	case 7:
		return limits{value: [2]int{0, 256}}, true
	case 8:
		return limits{radius: [2]int{-3, 3}, value: [2]int{-3, 3}}, true
	}
	return limits{}, false
}

// isValid reports whether a filter is valid, as P13.1 says it.
func isValid(f api.Filter) bool {
	l, found := limitsOf(f.Kind)
	for _, x := range []struct {
		n      int
		bounds [2]int
	}{{f.Radius, l.radius}, {f.Div, l.div}, {f.Value, l.value}} {
		found = found && x.n >= x.bounds[0] && x.n <= x.bounds[1]
	}
	if !found {
		return false
	}
	entries, curvePoints := 0, len(f.Curve)
	if l.kernel {
		entries = []int{1, 9, 25, 49}[f.Radius]
	}
	if len(f.Kernel) != entries || l.curve != (curvePoints >= 2 && curvePoints <= 257) || !l.curve && curvePoints > 0 {
		return false
	}
	for _, k := range f.Kernel {
		if k < -4096 || k > 4096 {
			return false
		}
	}
	for i, v := range f.Curve {
		if v < 0 || v > 65535 || i > 0 && v < f.Curve[i-1] {
			return false
		}
	}
	return true
}

// isEmpty reports whether a rectangle has no points.
func isEmpty(r api.Rect) bool {
	return r.X0 >= r.X1 || r.Y0 >= r.Y1
}

// points returns the number of the points of a rectangle.
func points(r api.Rect) int {
	if isEmpty(r) {
		return 0
	}
	return (r.X1 - r.X0) * (r.Y1 - r.Y0)
}

// moved returns a rectangle whose sides have been moved, each by itself, or the zero rectangle if it is empty before or after that.
func moved(r api.Rect, x0, y0, x1, y1 int) api.Rect {
	result := box(r.X0+x0, r.Y0+y0, r.X1+x1, r.Y1+y1)
	if isEmpty(r) || isEmpty(result) {
		return api.Rect{}
	}
	return result
}

// areas returns Need and Spread, as P13.2 says them.
func areas(f api.Filter, r api.Rect) (need, spread api.Rect) {
	if !isValid(f) {
		return api.Rect{}, api.Rect{}
	}
	switch f.Kind {
	case api.Convolve, api.Median, api.Erode, api.Dilate:
		grown := moved(r, -f.Radius, -f.Radius, f.Radius, f.Radius)
		return grown, grown
	case api.Offset:
		return moved(r, -f.Radius, -f.Value, -f.Radius, -f.Value), moved(r, f.Radius, f.Value, f.Radius, f.Value)
	}
	same := moved(r, 0, 0, 0, 0)
	return same, same
}

// isAdmissible reports whether the fields of a rectangle are from -2^20 to 2^20.
func isAdmissible(r api.Rect) bool {
	return min(r.X0, r.Y0, r.X1, r.Y1) >= -1048576 && max(r.X0, r.Y0, r.X1, r.Y1) <= 1048576
}

// errorOf returns the error of Apply, as P13.3 says it.
func errorOf(f api.Filter, in api.Image, r api.Rect) api.Errno {
	if !isValid(f) || !isAdmissible(in.Rect) || len(in.Pixels) != points(in.Rect) || !isAdmissible(r) {
		return api.ErrArg
	}
	if points(r) > 262144 {
		return api.ErrBudget
	}
	need, _ := areas(f, r)
	if !isEmpty(r) && (need.X0 < in.Rect.X0 || need.Y0 < in.Rect.Y0 || need.X1 > in.Rect.X1 || need.Y1 > in.Rect.Y1) {
		return api.ErrArg
	}
	return api.OK
}

// round returns the integer nearest to n / d for a positive d, the greater one of two.
func round(n, d int) int {
	half := new(big.Rat).Add(big.NewRat(int64(n), int64(d)), big.NewRat(1, 2))
	// The denominator of a rational number is positive, so that this division rounds down.
	return int(new(big.Int).Div(half.Num(), half.Denom()).Int64())
}

// limited returns the value of a channel nearest to n.
func limited(n int) uint8 {
	switch {
	case n < 0:
		return 0
	case n > 255:
		return 255
	}
	return uint8(n)
}

// channelsOf returns the channels of a pixel, the alpha last.
func channelsOf(p api.Pixel) [4]int {
	return [4]int{int(p.R), int(p.G), int(p.B), int(p.A)}
}

// fromChannels returns the pixel with these channels, without its colour if it is transparent.
func fromChannels(c [4]int) api.Pixel {
	if c[3] == 0 {
		return api.Pixel{}
	}
	return of(uint8(c[0]), uint8(c[1]), uint8(c[2]), uint8(c[3]))
}

// lookUp returns the pixel of an image at a place in it.
func lookUp(m api.Image, x, y int) api.Pixel {
	return m.Pixels[x-m.Rect.X0+(y-m.Rect.Y0)*(m.Rect.X1-m.Rect.X0)]
}

// convolved returns the pixel of a convolution, as P13.3 says it.
func convolved(f api.Filter, in api.Image, x, y int) api.Pixel {
	var sums [4]int
	next := 0
	for dy := -f.Radius; dy <= f.Radius; dy++ {
		for dx := -f.Radius; dx <= f.Radius; dx++ {
			q := channelsOf(lookUp(in, x+dx, y+dy))
			k := f.Kernel[next]
			next++
			for i := range 3 {
				sums[i] += k * q[3] * q[i]
			}
			sums[3] += k * q[3]
		}
	}
	alpha := limited(round(sums[3], f.Div))
	if alpha == 0 {
		return api.Pixel{}
	}
	return of(limited(round(sums[0], sums[3])), limited(round(sums[1], sums[3])), limited(round(sums[2], sums[3])), alpha)
}

// chosen returns the pixel of a median, of an erosion or of a dilation: each channel is the value that as many values are less than as the kind says.
func chosen(f api.Filter, in api.Image, x, y int) api.Pixel {
	var result [4]int
	size := (2*f.Radius + 1) * (2*f.Radius + 1)
	place := map[int]int{api.Median: (size - 1) / 2, api.Erode: 0, api.Dilate: size - 1}[f.Kind]
	for i := range result {
		var counts [256]int
		for dy := -f.Radius; dy <= f.Radius; dy++ {
			for dx := -f.Radius; dx <= f.Radius; dx++ {
				counts[channelsOf(lookUp(in, x+dx, y+dy))[i]]++
			}
		}
		for before := counts[0]; before <= place; before += counts[result[i]] {
			result[i]++
		}
	}
	return fromChannels(result)
}

// toned returns the value of a channel under a curve: with lines between the points, rounded once on the way to 16 bits, and once to 8 bits.
func toned(c []int, value int) int {
	last := len(c) - 1
	x := 257 * value * last
	i := min(x/65535, last-1)
	left, right := c[i], c[i+1]
	return round(round(left*65535+(right-left)*(x-65535*i), 65535), 257)
}

// filtered returns a pixel of the output, as P13.3 says it.
func filtered(f api.Filter, in api.Image, x, y int) api.Pixel {
	switch f.Kind {
	case api.Convolve:
		return convolved(f, in, x, y)
	case api.Median, api.Erode, api.Dilate:
		return chosen(f, in, x, y)
	case api.Offset:
		return fromChannels(channelsOf(lookUp(in, x-f.Radius, y-f.Value)))
	}
	c := channelsOf(lookUp(in, x, y))
	sum := c[0] + c[1] + c[2]
	for i := range 3 {
		switch f.Kind {
		case api.Tone:
			c[i] = toned(f.Curve, c[i])
		case api.Invert:
			c[i] = 255 ^ c[i]
		case api.Threshold:
			c[i] = 0
			if sum >= f.Value+f.Value+f.Value {
				c[i] = 255
			}
		}
	}
	return fromChannels(c)
}

// modelled returns what Apply returns, as P13.3 says it.
func modelled(f api.Filter, in api.Image, r api.Rect) (api.Image, api.Errno) {
	if err := errorOf(f, in, r); err != api.OK {
		return api.Image{}, err
	}
	m := api.Image{Rect: r}
	for y := r.Y0; y < r.Y1; y++ {
		for x := r.X0; x < r.X1; x++ {
			m.Pixels = append(m.Pixels, filtered(f, in, x, y))
		}
	}
	return m, api.OK
}

// copyOf returns a filter that shares no memory with f.
func copyOf(f api.Filter) api.Filter {
	f.Kernel, f.Curve = slices.Clone(f.Kernel), slices.Clone(f.Curve)
	return f
}

// isSame reports whether two filters are equal. Lists that are nil equal empty ones.
func isSame(a, b api.Filter) bool {
	return a.Kind == b.Kind && a.Radius == b.Radius && a.Div == b.Div && a.Value == b.Value && slices.Equal(a.Kernel, b.Kernel) && slices.Equal(a.Curve, b.Curve)
}

// isSameImage reports whether two images are equal.
func isSameImage(a, b api.Image) bool {
	return a.Rect == b.Rect && slices.Equal(a.Pixels, b.Pixels)
}

// expectApply reports another result of Apply, and arguments that are not as they were.
func expectApply(t *testing.T, f api.Filter, in api.Image, r api.Rect, want api.Image, wantErr api.Errno) {
	t.Helper()
	before, pixels := copyOf(f), slices.Clone(in.Pixels)
	for range 2 {
		got, err := filter.Apply(f, in, r)
		if err != wantErr || !isSameImage(got, want) {
			t.Fatalf("Apply of %v to an image of %v in %v returns %v and the error %d, not %v and %d", f, in.Rect, r, shown(got), err, shown(want), wantErr)
		}
		// The second call would notice if these were pixels of the input, or were kept.
		for i := range got.Pixels {
			got.Pixels[i] = of(1, 2, 3, 4)
		}
	}
	if !isSame(f, before) || !slices.Equal(in.Pixels, pixels) {
		t.Fatalf("Apply of %v changes its arguments", before)
	}
}

// shown returns as much of an image as a message should have.
func shown(m api.Image) api.Image {
	m.Pixels = m.Pixels[:min(len(m.Pixels), 50)]
	return m
}

// expectPixels reports an output of other pixels, under no error.
func expectPixels(t *testing.T, f api.Filter, in api.Image, r api.Rect, want ...api.Pixel) {
	t.Helper()
	expectApply(t, f, in, r, imageOf(r, want...), api.OK)
}

// expectError reports another error of Apply, or one with a result.
func expectError(t *testing.T, f api.Filter, in api.Image, r api.Rect, want api.Errno) {
	t.Helper()
	expectApply(t, f, in, r, api.Image{}, want)
}

// expectModel reports an output other than that of the model.
func expectModel(t *testing.T, f api.Filter, in api.Image, r api.Rect) {
	t.Helper()
	want, err := modelled(f, in, r)
	expectApply(t, f, in, r, want, err)
}

// expectAreas reports another Need or Spread.
func expectAreas(t *testing.T, f api.Filter, r, need, spread api.Rect) {
	t.Helper()
	before := copyOf(f)
	if got := filter.Need(f, r); got != need {
		t.Errorf("Need of %v and %v is %v, not %v", f, r, got, need)
	}
	if got := filter.Spread(f, r); got != spread {
		t.Errorf("Spread of %v and %v is %v, not %v", f, r, got, spread)
	}
	if !isSame(f, before) {
		t.Errorf("Need or Spread changes %v", before)
	}
}

// expectValid reports another Valid or Clear, which are the same for all filters.
func expectValid(t *testing.T, f api.Filter, want bool) {
	t.Helper()
	before := copyOf(f)
	if got := filter.Valid(f); got != want {
		t.Errorf("Valid of %v is %v", f, got)
	}
	if got := filter.Clear(f); got != want {
		t.Errorf("Clear of %v is %v", f, got)
	}
	if !isSame(f, before) {
		t.Errorf("Valid or Clear changes %v", before)
	}
}
