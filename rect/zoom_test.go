package rect_test

import (
	"math/big"
	"testing"

	"gouache/api"
	"gouache/rect"
)

// someNumbers returns numbers of both signs around zero, around the powers of two, and at the limits of the integers.
func someNumbers() []int {
	numbers := []int{least, least + 1, greatest - 1, greatest, 1000003, -1000003}
	for n := -20; n <= 20; n++ {
		numbers = append(numbers, n)
	}
	for bit := 5; bit < 63; bit += 3 {
		power := 1 << bit
		numbers = append(numbers, power-1, power, power+1, -power-1, -power, -power+1)
	}
	return numbers
}

// exactFloor returns a / b rounded down, computed with arbitrarily large integers; a quotient beyond the integers wraps around.
func exactFloor(a, b *big.Int) int {
	quotient, rest := new(big.Int).QuoRem(a, b, new(big.Int))
	if rest.Sign()*b.Sign() < 0 {
		quotient.Sub(quotient, big.NewInt(1))
	}
	wrapped := new(big.Int).And(quotient, new(big.Int).SetUint64(1<<64-1))
	return int(wrapped.Uint64())
}

// P3.5: the fields are multiplied, zoom 0 changes nothing, and there are five levels.
func TestScale(t *testing.T) {
	b := of(4, -2, 12, 3)
	for _, x := range []struct {
		r    api.Rect
		zoom int
		want api.Rect
	}{
		{b, 0, b},
		{b, 1, of(8, -4, 24, 6)},
		{b, 2, of(16, -8, 48, 12)},
		{b, 3, of(32, -16, 96, 24)},
		{b, 4, of(64, -32, 192, 48)},
		{of(-7, -5, -3, -1), 4, of(-112, -80, -48, -16)},
		{of(-65536, -65536, 65536, 65536), 4, of(-1048576, -1048576, 1048576, 1048576)},
		{of(0, 0, 1<<58, 1<<58), 4, of(0, 0, 1<<62, 1<<62)},
		// Products wrap around; nothing else is said about a result that is empty.
		{of(least, 0, greatest, 1), 1, of(0, 0, -2, 2)},
		{of(0, 0, 1<<62, 1), 1, of(0, 0, least, 2)},
		{of(1, 2, 1<<61+3, 5), 3, of(8, 16, 24, 40)},
		{of(least, least, greatest, greatest), 0, of(least, least, greatest, greatest)},
	} {
		if got := rect.Scale(x.r, x.zoom); got != x.want {
			t.Errorf("Scale(%v, %d) is %v, not %v", x.r, x.zoom, got, x.want)
		}
	}
}

// P3.5: the left and upper sides are rounded down, the right and lower ones up, also near the limits of the integers.
func TestShrink(t *testing.T) {
	b := of(4, -2, 12, 3)
	for _, x := range []struct {
		r    api.Rect
		zoom int
		want api.Rect
	}{
		{of(-3, 0, 5, 4), 1, of(-2, 0, 3, 2)},
		{b, 0, b},
		{b, 1, of(2, -1, 6, 2)},
		{b, 2, of(1, -1, 3, 1)},
		{b, 3, of(0, -1, 2, 1)},
		{b, 4, of(0, -1, 1, 1)},
		{of(-7, -5, -3, -1), 1, of(-4, -3, -1, 0)},
		{of(-7, -5, -3, -1), 2, of(-2, -2, 0, 0)},
		{of(15, 16, 17, 32), 4, of(0, 1, 2, 2)},
		{of(-1, -1, 0, 0), 4, of(-1, -1, 0, 0)},
		{of(-65536, -65536, 65536, 65536), 4, of(-4096, -4096, 4096, 4096)},
		{of(-65537, 0, 65537, 1), 4, of(-4097, 0, 4097, 1)},
		{of(least, least, greatest, greatest), 0, of(least, least, greatest, greatest)},
		{of(least, least, greatest, greatest), 4, of(-1<<59, -1<<59, 1<<59, 1<<59)},
		{of(least+1, greatest-1, least+2, greatest), 1, of(-1<<62, 1<<62-1, -1<<62+1, 1<<62)},
	} {
		if got := rect.Shrink(x.r, x.zoom); got != x.want {
			t.Errorf("Shrink(%v, %d) is %v, not %v", x.r, x.zoom, got, x.want)
		}
	}
}

// P3.5: other zoom levels, and empty rectangles of both kinds, give the zero rectangle.
func TestScaleAndShrinkToTheZeroRect(t *testing.T) {
	for _, zoom := range []int{-1, -2, -4, -64, least, 5, 6, 31, 32, 63, 64, 65, 68, greatest} {
		for _, r := range []api.Rect{of(4, -2, 12, 3), of(least, least, greatest, greatest), {}, of(3, 3, 3, 3)} {
			expectRect(t, "Scale at another zoom level", rect.Scale(r, zoom), api.Rect{})
			expectRect(t, "Shrink at another zoom level", rect.Shrink(r, zoom), api.Rect{})
		}
	}
	for zoom := range 5 {
		// Rounded to the outside, or wrapped around, some of these would have points.
		for _, r := range []api.Rect{{}, of(3, 0, 3, 5), of(0, 3, 5, 3), of(5, 1, 3, 4), of(1, 5, 4, 3), of(9, 9, 1, 1), of(1, 1, 1, 1), of(1<<62, 0, 1<<60, 1), of(greatest, 0, least, 9)} {
			expectRect(t, "Scale of an empty rectangle", rect.Scale(r, zoom), api.Rect{})
			expectRect(t, "Shrink of an empty rectangle", rect.Shrink(r, zoom), api.Rect{})
		}
	}
}

// P3.6: the examples of the chapter, all signs, and divisors that divide exactly or not at all.
func TestFloorAndCeil(t *testing.T) {
	for _, x := range []struct{ a, b, floor, ceil int }{
		{7, 2, 3, 4}, {-7, 2, -4, -3}, {7, -2, -4, -3}, {-7, -2, 3, 4},
		{8, 2, 4, 4}, {-8, 2, -4, -4}, {8, -2, -4, -4}, {-8, -2, 4, 4},
		{1, 3, 0, 1}, {-1, 3, -1, 0}, {1, -3, -1, 0}, {-1, -3, 0, 1},
		{0, 5, 0, 0}, {0, -5, 0, 0},
		{0, 0, 0, 0}, {7, 0, 0, 0}, {-7, 0, 0, 0}, {least, 0, 0, 0}, {greatest, 0, 0, 0},
		{greatest, greatest, 1, 1}, {least, least, 1, 1}, {greatest, least, -1, 0}, {least, greatest, -2, -1},
		{greatest, 1, greatest, greatest}, {least, 1, least, least}, {greatest, -1, -greatest, -greatest},
		{greatest, 2, 1<<62 - 1, 1 << 62}, {least + 1, 2, -1 << 62, -1<<62 + 1},
		{1, greatest, 0, 1}, {-1, greatest, -1, 0}, {1, least, -1, 0}, {-1, least, 0, 1},
		// The only quotient that wraps around.
		{least, -1, least, least},
	} {
		if got := rect.Floor(x.a, x.b); got != x.floor {
			t.Errorf("Floor(%d, %d) is %d, not %d", x.a, x.b, got, x.floor)
		}
		if got := rect.Ceil(x.a, x.b); got != x.ceil {
			t.Errorf("Ceil(%d, %d) is %d, not %d", x.a, x.b, got, x.ceil)
		}
	}
}

// P3.6: many pairs, against integers of arbitrary size; a quotient rounded up is that of -a rounded down, negated.
func TestFloorAndCeilOfManyPairs(t *testing.T) {
	for _, a := range someNumbers() {
		for _, b := range someNumbers() {
			if b == 0 {
				continue
			}
			bigA, bigB := big.NewInt(int64(a)), big.NewInt(int64(b))
			if got, want := rect.Floor(a, b), exactFloor(bigA, bigB); got != want {
				t.Errorf("Floor(%d, %d) is %d, not %d", a, b, got, want)
			}
			if got, want := rect.Ceil(a, b), -exactFloor(bigA.Neg(bigA), bigB); got != want {
				t.Errorf("Ceil(%d, %d) is %d, not %d", a, b, got, want)
			}
		}
	}
}

// P3.7: the scaled result of Shrink contains r, and does not if any side is moved inwards by one.
func TestShrinkReturnsTheSmallestRect(t *testing.T) {
	for _, r := range shrinkableRects() {
		for zoom := range 5 {
			small := rect.Shrink(r, zoom)
			if !rect.Inside(r, rect.Scale(small, zoom)) {
				t.Errorf("Shrink(%v, %d) is %v, which does not cover it", r, zoom, small)
			}
			for _, smaller := range []api.Rect{
				of(small.X0+1, small.Y0, small.X1, small.Y1), of(small.X0, small.Y0+1, small.X1, small.Y1),
				of(small.X0, small.Y0, small.X1-1, small.Y1), of(small.X0, small.Y0, small.X1, small.Y1-1),
			} {
				if rect.Inside(r, rect.Scale(smaller, zoom)) {
					t.Errorf("Shrink(%v, %d) is %v, but %v covers it, too", r, zoom, small, smaller)
				}
			}
		}
	}
}

// shrinkableRects returns rectangles that are not empty and whose sides have all positions relative to the pixels of the highest zoom level.
func shrinkableRects() []api.Rect {
	rects := []api.Rect{of(-65536, -65536, 65536, 65536), of(-1<<61-5, 3, 1<<61+5, 4)}
	for start := -17; start <= 17; start++ {
		for length := 1; length <= 33; length++ {
			rects = append(rects, of(start, -length, start+length, length), of(-5, start, 70001, start+length))
		}
	}
	return rects
}

// P3.7: Shrink undoes Scale.
func TestShrinkUndoesScale(t *testing.T) {
	for _, r := range shrinkableRects() {
		if rect.Area(r) > 1<<58 {
			continue // its multiples would wrap around
		}
		for zoom := range 5 {
			expectRect(t, "Shrink of a scaled rectangle", rect.Shrink(rect.Scale(r, zoom), zoom), r)
		}
	}
}

// P1: no call panics or fails to terminate, whatever its input is, and the results keep to the rules that have no exceptions.
func FuzzRectsFollowTheirRules(f *testing.F) {
	f.Add(0, 0, 4, 4, 1, 1, 3, 3)
	f.Add(0, 0, 10, 6, 4, -2, 12, 3)
	f.Add(least, least, greatest, greatest, 0, 0, 1, -1)
	f.Add(greatest, 0, least, 1, 5, 5, 5, 5)
	f.Fuzz(func(t *testing.T, a0, a1, a2, a3, b0, b1, b2, b3 int) {
		a, b := of(a0, a1, a2, a3), of(b0, b1, b2, b3)
		if union := rect.Union(a, b); !rect.Inside(a, union) || !rect.Inside(b, union) {
			t.Errorf("Union(%v, %v) is %v", a, b, union)
		}
		common := rect.Intersect(a, b)
		if !rect.Inside(common, a) || !rect.Inside(common, b) {
			t.Errorf("Intersect(%v, %v) is %v", a, b, common)
		}
		// Modulo 2^64, the areas of the parts add up even where they wrap around.
		area := rect.Area(common)
		for _, part := range rect.Minus(a, b) {
			area += rect.Area(part)
			if rect.Empty(part) || !rect.Inside(part, a) || !rect.Empty(rect.Intersect(part, b)) {
				t.Errorf("Minus(%v, %v) has the part %v", a, b, part)
			}
		}
		if area != rect.Area(a) {
			t.Errorf("Minus(%v, %v) does not cover the rest", a, b)
		}
		for _, tile := range firstOf(rect.Tiles(a), 3) {
			p := api.Point{X: max(a.X0, 8*tile.X), Y: max(a.Y0, 8*tile.Y)}
			if !rect.Has(a, p) || rect.At(p) != tile {
				t.Errorf("Tiles(%v) yields %v", a, tile)
			}
		}
		if small := rect.Shrink(a, b0&3); rect.Empty(small) != rect.Empty(a) {
			t.Errorf("Shrink(%v, %d) is %v", a, b0&3, small)
		}
		rect.Grow(a, b0)
		rect.Move(a, b0, b1)
		rect.Scale(a, b0)
		rect.Valid(a)
		if rect.Equal(a, b) != (rect.Inside(a, b) && rect.Inside(b, a)) {
			t.Errorf("Equal(%v, %v) is %v", a, b, rect.Equal(a, b))
		}
		if rect.Floor(a0, b0) > rect.Ceil(a0, b0) {
			t.Errorf("Floor(%d, %d) is greater than Ceil", a0, b0)
		}
	})
}
