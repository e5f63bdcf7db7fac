package filter_test

import (
	"slices"
	"testing"

	"gouache/api"
	"gouache/filter"
)

// P13.2: the example of the chapter, and each kind.
func TestAreas(t *testing.T) {
	expectAreas(t, ofKind(api.Median, 2), box(0, 0, 4, 4), box(-2, -2, 6, 6), box(-2, -2, 6, 6))
	r := box(10, -20, 13, 5)
	for radius, want := range []api.Rect{r, box(9, -21, 14, 6), box(8, -22, 15, 7), box(7, -23, 16, 8)} {
		expectAreas(t, even(radius, 1, 1), r, want, want)
		expectAreas(t, even(radius, 1, 0), r, want, want)
		for _, kind := range kindsWithRadius {
			expectAreas(t, ofKind(kind, radius), r, want, want)
		}
	}
	for _, f := range []api.Filter{tone(0, 65535), ofKind(api.Invert, 0), threshold(0), threshold(3), threshold(256), offset(0, 0)} {
		expectAreas(t, f, r, r, r)
	}
	expectAreas(t, offset(3, 0), r, box(7, -20, 10, 5), box(13, -20, 16, 5))
	expectAreas(t, offset(0, 2), r, box(10, -22, 13, 3), box(10, -18, 13, 7))
	expectAreas(t, offset(-1, -3), r, box(11, -17, 14, 8), box(9, -23, 12, 2))
	expectAreas(t, offset(2, -1), r, box(8, -19, 11, 6), box(12, -21, 15, 4))
}

// P13.2: filters that are not valid.
func TestAreasOfInvalidFilters(t *testing.T) {
	for _, f := range invalidFilters() {
		for _, r := range []api.Rect{box(0, 0, 4, 4), box(-5, 3, 9, 9), box(least, least, greatest, greatest), {}, box(4, 4, 2, 2)} {
			expectAreas(t, f, r, api.Rect{}, api.Rect{})
		}
	}
}

// P13.2: rectangles that are empty in one direction or in both, or reversed; nothing grows or is moved.
func TestAreasOfEmptyRects(t *testing.T) {
	for _, f := range validFilters() {
		for _, r := range []api.Rect{
			{}, box(5, 5, 5, 5), box(5, 0, 5, 9), box(0, 5, 9, 5), box(5, 0, 4, 9), box(0, 5, 9, 4), box(9, 9, 0, 0), box(9, 0, 0, 9), box(0, 9, 9, 0), box(1, 1, 0, 0), box(6, 6, 1, 1),
			box(greatest, greatest, least, least), box(greatest, 0, least, 1), box(0, greatest, 1, least), box(greatest, greatest, greatest, greatest), box(least, 3, least, 4), box(3, least, 4, least), box(greatest, 0, 0, 1), box(1, least+1, 5, least),
		} {
			expectAreas(t, f, r, api.Rect{}, api.Rect{})
		}
	}
}

// P13.2, R5: beyond the limits of integers, the sums wrap around.
func TestAreasOfGreatRects(t *testing.T) {
	whole := box(least, least, greatest, greatest)
	for _, f := range []api.Filter{tone(0, 65535), ofKind(api.Invert, 0), threshold(7), offset(0, 0), kernel(0, 1, 1), ofKind(api.Erode, 0)} {
		expectAreas(t, f, whole, whole, whole)
		expectAreas(t, f, box(greatest-1, least, greatest, least+1), box(greatest-1, least, greatest, least+1), box(greatest-1, least, greatest, least+1))
	}
	for _, f := range []api.Filter{even(2, 1, 1), ofKind(api.Median, 2), ofKind(api.Erode, 2), ofKind(api.Dilate, 2)} {
		expectAreas(t, f, whole, api.Rect{}, api.Rect{})
		inner := box(least+2, least+2, greatest-2, greatest-2)
		expectAreas(t, f, inner, whole, whole)
		for _, r := range []api.Rect{box(least+1, least+2, greatest-2, greatest-2), box(least+2, least+1, greatest-2, greatest-2), box(least+2, least+2, greatest-1, greatest-2), box(least+2, least+2, greatest-2, greatest-1)} {
			expectAreas(t, f, r, api.Rect{}, api.Rect{})
		}
	}
	// Both sides wrap around.
	expectAreas(t, offset(-3, 0), box(greatest-1, 0, greatest, 1), box(least+1, 0, least+2, 1), box(greatest-4, 0, greatest-3, 1))
	expectAreas(t, offset(0, -3), box(0, greatest-1, 1, greatest), box(0, least+1, 1, least+2), box(0, greatest-4, 1, greatest-3))
	expectAreas(t, offset(2, 2), box(least, least, least+1, least+1), box(greatest-1, greatest-1, greatest, greatest), box(least+2, least+2, least+3, least+3))
	// One side wraps around, and nothing is left.
	expectAreas(t, offset(1, 0), box(greatest-1, 0, greatest, 1), box(greatest-2, 0, greatest-1, 1), api.Rect{})
	expectAreas(t, offset(0, -1), box(0, 9, 1, greatest), api.Rect{}, box(0, 8, 1, greatest-1))
	expectAreas(t, offset(2, 2), box(least, least, least+1, least+2), api.Rect{}, box(least+2, least+2, least+3, least+4))
	expectAreas(t, offset(3, 3), whole, api.Rect{}, api.Rect{})
}

// P13.2: many filters and rectangles.
func TestAreasOfManyArguments(t *testing.T) {
	fields := []int{0, 1, -1, 2, 3, 4, 5, -3, -5, 65536, -1 << 20, 1 << 20, least, least + 1, least + 2, least + 3, greatest, greatest - 1, greatest - 3}
	filters := slices.Concat(validFilters(), invalidFilters())
	for seed := range 20000 {
		next := scatter(seed)
		f := filters[next(len(filters))]
		r := box(fields[next(len(fields))], fields[next(len(fields))], fields[next(len(fields))], fields[next(len(fields))])
		need, spread := areas(f, r)
		expectAreas(t, f, r, need, spread)
	}
}

// P13.2: a pixel that may matter lies in Need of the other one exactly if the latter lies in Spread of the former.
func TestAreasAreInverse(t *testing.T) {
	for _, f := range validFilters() {
		for y := -4; y <= 4; y++ {
			for x := -4; x <= 4; x++ {
				at := box(x, y, x+1, y+1)
				need, spread := filter.Need(f, box(0, 0, 1, 1)), filter.Spread(f, at)
				needed := need.X0 <= x && x < need.X1 && need.Y0 <= y && y < need.Y1
				reached := spread.X0 <= 0 && 0 < spread.X1 && spread.Y0 <= 0 && 0 < spread.Y1
				if needed != reached {
					t.Errorf("(%d, %d) is in Need of %v: %v; the origin is in Spread: %v", x, y, f, needed, reached)
				}
			}
		}
	}
}
