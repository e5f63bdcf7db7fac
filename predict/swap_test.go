package predict_test

import (
	"testing"

	"gouache/predict"
)

// P10.1: 0 and 255 in each channel, where differences and sums wrap around; the examples of the chapter; odd values of u and v, whose halves are rounded down.
func TestSwap(t *testing.T) {
	for _, x := range []struct{ r, g, b, y, u, v uint8 }{
		{0, 0, 0, 0, 0, 0},
		{255, 0, 0, 191, 255, 129},
		{0, 255, 0, 127, 0, 255},
		{0, 0, 255, 255, 1, 1},
		{255, 255, 0, 191, 255, 128},
		{255, 0, 255, 255, 0, 1},
		{0, 255, 255, 255, 1, 0},
		{255, 255, 255, 255, 0, 0},
		{10, 10, 10, 10, 0, 0},
		{1, 0, 0, 0, 1, 0},
		{3, 0, 0, 128, 3, 255},
		{0, 1, 0, 0, 0, 1},
		{0, 3, 0, 1, 0, 3},
		{8, 20, 5, 13, 3, 14},
		{100, 50, 25, 184, 75, 244},
	} {
		y, u, v := predict.Swap(x.r, x.g, x.b)
		if y != x.y || u != x.u || v != x.v {
			t.Errorf("Swap(%d, %d, %d) is %d, %d, %d, not %d, %d, %d", x.r, x.g, x.b, y, u, v, x.y, x.u, x.v)
		}
		r, g, b := predict.Back(x.y, x.u, x.v)
		if r != x.r || g != x.g || b != x.b {
			t.Errorf("Back(%d, %d, %d) is %d, %d, %d, not %d, %d, %d", x.y, x.u, x.v, r, g, b, x.r, x.g, x.b)
		}
	}
}

// P10.1: Back at 0 and 255 in each value, and at odd ones.
func TestBack(t *testing.T) {
	for _, x := range []struct{ y, u, v, r, g, b uint8 }{
		{0, 0, 0, 0, 0, 0},
		{255, 0, 0, 255, 255, 255},
		{0, 255, 0, 128, 0, 129},
		{0, 0, 255, 129, 128, 129},
		{255, 255, 0, 127, 255, 128},
		{255, 0, 255, 128, 127, 128},
		{0, 255, 255, 1, 128, 2},
		{255, 255, 255, 0, 127, 1},
		{0, 1, 0, 1, 0, 0},
		{0, 0, 1, 0, 1, 0},
		{9, 7, 5, 11, 12, 4},
	} {
		r, g, b := predict.Back(x.y, x.u, x.v)
		if r != x.r || g != x.g || b != x.b {
			t.Errorf("Back(%d, %d, %d) is %d, %d, %d, not %d, %d, %d", x.y, x.u, x.v, r, g, b, x.r, x.g, x.b)
		}
	}
}

// P10.1: all colours, in both directions, against the definition; each call undoes the other one.
func TestSwapAndBackOfAllColours(t *testing.T) {
	for n := range 1 << 24 {
		first, second, third := uint8(n>>16), uint8(n>>8), uint8(n)
		y, u, v := predict.Swap(first, second, third)
		if wantY, wantU, wantV := swapped(n>>16, n>>8&255, n&255); int(y) != wantY || int(u) != wantU || int(v) != wantV {
			t.Fatalf("Swap(%d, %d, %d) is %d, %d, %d, not %d, %d, %d", first, second, third, y, u, v, wantY, wantU, wantV)
		}
		if r, g, b := predict.Back(y, u, v); r != first || g != second || b != third {
			t.Fatalf("Back of Swap(%d, %d, %d) is %d, %d, %d", first, second, third, r, g, b)
		}
		r, g, b := predict.Back(first, second, third)
		if wantR, wantG, wantB := returned(n>>16, n>>8&255, n&255); int(r) != wantR || int(g) != wantG || int(b) != wantB {
			t.Fatalf("Back(%d, %d, %d) is %d, %d, %d, not %d, %d, %d", first, second, third, r, g, b, wantR, wantG, wantB)
		}
		if y, u, v := predict.Swap(r, g, b); y != first || u != second || v != third {
			t.Fatalf("Swap of Back(%d, %d, %d) is %d, %d, %d", first, second, third, y, u, v)
		}
	}
}

// P10.6: of a grey pixel, y is the grey value, and u and v are 0.
func TestSwapOfGreyPixels(t *testing.T) {
	for n := range 256 {
		grey := uint8(n)
		if y, u, v := predict.Swap(grey, grey, grey); y != grey || u != 0 || v != 0 {
			t.Errorf("Swap of the grey value %d is %d, %d, %d", grey, y, u, v)
		}
		if r, g, b := predict.Back(grey, 0, 0); r != grey || g != grey || b != grey {
			t.Errorf("Back(%d, 0, 0) is %d, %d, %d", grey, r, g, b)
		}
	}
}
