package filter_test

import (
	"slices"
	"testing"

	"gouache/api"
	"gouache/filter"
)

const (
	bound = 1 << 20 // the greatest field of an admissible rectangle
	many  = 1 << 18 // the greatest number of pixels of a result
)

// fieldOf returns a field of a rectangle.
func fieldOf(r *api.Rect, i int) *int {
	return []*int{&r.X0, &r.Y0, &r.X1, &r.Y1}[i]
}

// P13.3: filters that are not valid, with images and rectangles that are right, wrong, and empty.
func TestApplyOfInvalidFilters(t *testing.T) {
	in := noise(1, box(-8, -8, 9, 9))
	for _, f := range invalidFilters() {
		for _, r := range []api.Rect{origin, box(-1, -1, 2, 2), {}, box(5, 5, 3, 9), box(0, 0, 100, 100), box(0, 0, 1000, 1000), box(0, 0, bound+1, 1)} {
			expectError(t, f, in, r, api.ErrArg)
			expectError(t, f, imageOf(in.Rect), r, api.ErrArg)
		}
		expectError(t, f, api.Image{}, api.Rect{}, api.ErrArg)
	}
}

// P13.3: images with too few or too many pixels.
func TestApplyOfOtherPixelCounts(t *testing.T) {
	invert, pixel := ofKind(api.Invert, 0), of(1, 2, 3, 4)
	for _, x := range []struct {
		in      api.Rect
		n, want int
	}{
		{box(0, 0, 1, 1), 0, 1}, {box(0, 0, 1, 1), 2, 1}, {box(-2, 3, 5, 9), 41, 42}, {box(-2, 3, 5, 9), 43, 42}, {box(-2, 3, 5, 9), 0, 42}, {box(-2, 3, 5, 9), 7, 42},
		{box(0, 0, 0, 0), 1, 0}, {box(5, 5, 5, 9), 4, 0}, {box(5, 5, 9, 5), 4, 0}, {box(2, 2, 0, 0), 4, 0}, {box(2, 0, 0, 2), 4, 0},
		{box(-bound, -bound, bound, bound), 100, 1 << 42}, {box(-bound, 0, bound, 1), 5, 1 << 21},
	} {
		in := imageOf(x.in, slices.Repeat([]api.Pixel{pixel}, x.n)...)
		for _, f := range []api.Filter{invert, ofKind(api.Erode, 1), offset(1, 1), kernel(0, 1, 1)} {
			expectError(t, f, in, origin, api.ErrArg)
			expectError(t, f, in, api.Rect{}, api.ErrArg)
			expectError(t, f, in, box(9, 9, 3, 3), api.ErrArg)
			expectError(t, f, in, box(0, 0, 1000, 1000), api.ErrArg)
		}
		if x.want < 100 {
			in.Pixels = slices.Repeat([]api.Pixel{pixel}, x.want)
			expectPixels(t, invert, in, box(9, 9, 3, 3))
		}
	}
}

// P13.3: images whose rectangles have fields at the bounds, and one beyond them, empty or not.
func TestApplyOfOtherImageRects(t *testing.T) {
	invert, pixel := ofKind(api.Invert, 0), of(1, 2, 3, 4)
	inverted := of(254, 253, 252, 4)
	for _, r := range []api.Rect{box(-bound, -bound, 1-bound, 1-bound), box(bound-1, bound-1, bound, bound), box(-bound, bound-1, 1-bound, bound), box(bound-1, -bound, bound, 1-bound)} {
		expectPixels(t, invert, imageOf(r, pixel), r, inverted)
	}
	for _, r := range []api.Rect{box(-bound-1, 0, -bound, 1), box(0, -bound-1, 1, -bound), box(bound, 0, bound+1, 1), box(0, bound, 1, bound+1), box(greatest-1, 0, greatest, 1), box(least, 0, least+1, 1)} {
		expectError(t, invert, imageOf(r, pixel), r, api.ErrArg)
		expectError(t, invert, imageOf(r, pixel), origin, api.ErrArg)
		expectError(t, invert, imageOf(r, pixel), api.Rect{}, api.ErrArg)
	}
	// Images without pixels, with a field at a bound, one beyond it, and far beyond.
	for _, empty := range []api.Rect{{}, box(7, 7, 7, 7), box(3, 0, -3, 9), box(0, 3, 9, -3)} {
		for i := range 4 {
			for _, n := range []int{-bound, bound} {
				in := api.Image{Rect: empty}
				*fieldOf(&in.Rect, i) = n
				if points(in.Rect) > 0 {
					continue
				}
				expectPixels(t, invert, in, api.Rect{})
				expectError(t, invert, in, origin, api.ErrArg)
			}
			for _, n := range []int{-bound - 1, bound + 1, least, greatest, 1 << 32} {
				in := api.Image{Rect: empty}
				*fieldOf(&in.Rect, i) = n
				expectError(t, invert, in, api.Rect{}, api.ErrArg)
				expectError(t, invert, in, origin, api.ErrArg)
			}
		}
	}
	// 2^32 times 2^32 pixels are none, if they wrap around.
	expectError(t, invert, imageOf(box(0, 0, 1<<32, 1<<32)), api.Rect{}, api.ErrArg)
	expectError(t, invert, imageOf(box(least, least, greatest, greatest), pixel), api.Rect{}, api.ErrArg)
}

// P13.3: rectangles with fields at the bounds, and beyond them, empty or not.
func TestApplyOfOtherRects(t *testing.T) {
	in := noise(1, box(-2, -2, 3, 3))
	for _, f := range []api.Filter{ofKind(api.Invert, 0), ofKind(api.Dilate, 2), offset(-3, 1)} {
		for _, r := range []api.Rect{{}, box(0, 0, 1, 1), box(7, 7, 7, 7), box(3, 0, -3, 9), box(0, 3, 9, -3)} {
			for i := range 4 {
				for _, n := range []int{-bound - 1, bound + 1, least, greatest, 1 << 32} {
					outer := r
					*fieldOf(&outer, i) = n
					expectError(t, f, in, outer, api.ErrArg)
				}
				for _, n := range []int{-bound, bound} {
					outer := r
					*fieldOf(&outer, i) = n
					switch {
					case isEmpty(outer):
						expectPixels(t, f, in, outer)
					case points(outer) > many:
						expectError(t, f, in, outer, api.ErrBudget)
					default:
						expectError(t, f, in, outer, api.ErrArg)
					}
				}
			}
		}
		expectError(t, f, in, box(least, least, greatest, greatest), api.ErrArg)
		expectError(t, f, in, box(0, 0, 1<<32, 1<<32), api.ErrArg)
	}
}

// P13.3: an empty rectangle is that of the result, as it is, wherever it lies and whatever the input has.
func TestApplyOfEmptyRects(t *testing.T) {
	for _, f := range validFilters() {
		for _, in := range []api.Image{{}, imageOf(box(3, 3, 3, 3)), imageOf(box(9, 5, 0, 7)), noise(1, origin), noise(2, box(-9, -9, 9, 9))} {
			for _, r := range []api.Rect{
				{}, box(5, 5, 5, 5), box(5, 0, 5, 9), box(0, 5, 9, 5), box(5, 0, 4, 9), box(0, 5, 9, 4), box(9, 9, 0, 0), box(-3, 0, -4, 9), box(100, 100, 100, 100),
				box(bound, bound, -bound, -bound), box(bound, -bound, -bound, bound), box(-bound, bound, bound, -bound), box(-bound, -bound, bound, -bound), box(bound, bound, bound, bound),
			} {
				expectPixels(t, f, in, r)
			}
		}
	}
}

// P13.3: rectangles of 2^18 pixels and of more.
func TestApplyOfManyPixels(t *testing.T) {
	p, q := of(1, 2, 3, 4), of(254, 253, 252, 4)
	for _, r := range []api.Rect{box(0, 0, 512, 512), box(-5, 3, many-5, 4), box(7, -many/2, 8, many/2), box(-1000, 100, 1048, 228)} {
		if points(r) != many {
			t.Fatalf("%v has %d pixels", r, points(r))
		}
		expectApply(t, ofKind(api.Invert, 0), filled(r, p), r, filled(r, q), api.OK)
		expectApply(t, ofKind(api.Erode, 1), filled(moved(r, -1, -1, 1, 1), p), r, filled(r, p), api.OK)
		expectError(t, ofKind(api.Erode, 1), filled(r, p), r, api.ErrArg)
	}
	for _, r := range []api.Rect{box(0, 0, 513, 512), box(0, 0, 512, 513), box(-5, 3, many-4, 4), box(7, -many/2, 8, many/2+1), box(0, 0, 43691, 6), box(-bound, -bound, bound, bound), box(-bound, 0, bound, 1), box(bound-1, -bound, bound, bound)} {
		in := api.Image{}
		if points(r) < 2*many {
			in = filled(r, p)
		}
		for _, f := range []api.Filter{ofKind(api.Invert, 0), ofKind(api.Erode, 1), offset(3, 3), even(0, 1, 1)} {
			// The budget is checked before the input is found to be too small.
			expectError(t, f, in, r, api.ErrBudget)
			expectError(t, f, api.Image{}, r, api.ErrBudget)
			expectError(t, f, noise(1, origin), r, api.ErrBudget)
		}
		// Errors that come before it.
		expectError(t, ofKind(api.Invert, 1), in, r, api.ErrArg)
		expectError(t, api.Filter{}, in, r, api.ErrArg)
		expectError(t, ofKind(api.Invert, 0), imageOf(in.Rect, append(slices.Clone(in.Pixels), p)...), r, api.ErrArg)
		expectError(t, ofKind(api.Invert, 0), imageOf(box(0, 0, bound+1, 0)), r, api.ErrArg)
		beyond := r
		beyond.X1 = bound + 1
		expectError(t, ofKind(api.Invert, 0), in, beyond, api.ErrArg)
	}
	// Rectangles with sides that would be too many, if they were not reversed.
	expectPixels(t, ofKind(api.Invert, 0), api.Image{}, box(1000, 1000, 0, 0))
	expectPixels(t, ofKind(api.Invert, 0), api.Image{}, box(1000, 0, 0, 1000))
}

// P13.3: an input that is just large enough, and one that lacks a row or a column on one side.
func TestApplyNeedsItsInput(t *testing.T) {
	for i, f := range validFilters() {
		for _, r := range []api.Rect{origin, box(-3, 5, 1, 7), box(100, -50, 101, -45)} {
			need, _ := areas(f, r)
			expectModel(t, f, noise(i, need), r)
			expectModel(t, f, noise(i, moved(need, -1, -2, 3, 4)), r)
			if err := errorOf(f, noise(i, need), r); err != api.OK {
				t.Fatalf("the input of %v for %v is too small", need, f)
			}
			for _, lacking := range []api.Rect{
				box(need.X0+1, need.Y0, need.X1, need.Y1), box(need.X0, need.Y0+1, need.X1, need.Y1), box(need.X0, need.Y0, need.X1-1, need.Y1), box(need.X0, need.Y0, need.X1, need.Y1-1),
				box(need.X0+1, need.Y0-5, need.X1+5, need.Y1+5), box(need.X0-5, need.Y0+1, need.X1+5, need.Y1+5), box(need.X0-5, need.Y0-5, need.X1-1, need.Y1+5), box(need.X0-5, need.Y0-5, need.X1+5, need.Y1-1),
				moved(need, 50, 0, 50, 0), moved(need, 0, -50, 0, -50),
			} {
				expectError(t, f, noise(i, lacking), r, api.ErrArg)
			}
			expectError(t, f, api.Image{}, r, api.ErrArg)
			expectError(t, f, imageOf(box(need.X1, need.Y1, need.X0, need.Y0)), r, api.ErrArg)
			expectError(t, f, imageOf(box(-bound, bound, bound, -bound)), r, api.ErrArg)
		}
	}
}

// P13.3: at the bounds, the input cannot be large enough for a window, but it can for an offset from the inside.
func TestApplyAtTheBounds(t *testing.T) {
	for _, corner := range []api.Rect{box(-bound, -bound, 4-bound, 4-bound), box(bound-4, bound-4, bound, bound), box(-bound, bound-4, 4-bound, bound)} {
		in := noise(1, corner)
		for _, f := range validFilters() {
			expectModel(t, f, in, corner)
			for y := corner.Y0; y < corner.Y1; y++ {
				for x := corner.X0; x < corner.X1; x++ {
					expectModel(t, f, in, box(x, y, x+1, y+1))
				}
			}
		}
		expectError(t, ofKind(api.Median, 1), in, corner, api.ErrArg)
		expectError(t, even(3, 1, 1), in, corner, api.ErrArg)
	}
	in := noise(1, box(bound-1, 0, bound, 1))
	expectError(t, offset(1, 0), in, in.Rect, api.ErrArg)
	expectError(t, offset(1, 0), in, box(bound, 0, bound+1, 1), api.ErrArg)
	expectPixels(t, offset(-1, 0), in, box(bound-2, 0, bound-1, 1), lookUpClean(in, bound-1, 0))
}

// lookUpClean returns the pixel of an image, without its colour if it is transparent.
func lookUpClean(m api.Image, x, y int) api.Pixel {
	return fromChannels(channelsOf(lookUp(m, x, y)))
}

// P1, R2: all calls, with arguments that are wrong in several places or in none.
func TestManyArguments(t *testing.T) {
	fields := []int{0, 1, 2, 3, 5, 8, -1, -2, -3, -5, 20, -20, bound, bound - 1, bound + 1, -bound, 1 - bound, -bound - 1, 600, -600, least, greatest}
	filters := append(validFilters(), invalidFilters()...)
	errs := map[api.Errno]int{}
	for seed := range 30000 {
		next := scatter(seed)
		f := filters[next(len(filters))]
		side := func() int {
			if next(3) > 0 {
				return next(17) - 8
			}
			return fields[next(len(fields))]
		}
		r := box(side(), side(), side(), side())
		in := noise(seed, box(next(9)-13, next(9)-13, 5+next(9), 5+next(9)))
		switch next(12) {
		case 0:
			in.Pixels = in.Pixels[1:]
		case 1:
			in.Pixels = append(in.Pixels, of(1, 2, 3, 4))
		case 2:
			in = imageOf(box(side(), side(), side(), side()))
		case 3:
			in.Rect.X0 = bound + 1
			in.Pixels = nil
		}
		expectModel(t, f, in, r)
		errs[errorOf(f, in, r)]++
	}
	for _, err := range []api.Errno{api.OK, api.ErrArg, api.ErrBudget} {
		if errs[err] < 300 {
			t.Errorf("only %d calls have the error %d", errs[err], err)
		}
	}
}

// R3: results share no memory with the arguments, nor with one another, and later changes of arguments do not matter.
func TestResultsAreNew(t *testing.T) {
	for _, f := range []api.Filter{ofKind(api.Invert, 0), offset(0, 0), ofKind(api.Median, 0), kernel(0, 1, 1), tone(0, 65535)} {
		in := greys(box(0, 0, 3, 1), 1, 2, 3)
		in.Pixels = append(make([]api.Pixel, 0, 10), in.Pixels...)
		first, _ := filter.Apply(f, in, in.Rect)
		second, _ := filter.Apply(f, in, in.Rect)
		want := slices.Clone(first.Pixels)
		first.Pixels[0], in.Pixels[1] = of(9, 9, 9, 9), of(8, 8, 8, 8)
		_ = append(first.Pixels, of(7, 7, 7, 7))
		if !slices.Equal(second.Pixels, want) || in.Pixels[0] != grey(1) || in.Pixels[:4][3] != (api.Pixel{}) {
			t.Errorf("results of %v share memory", f)
		}
	}
}
