package predict_test

import (
	"strings"
	"testing"

	"gouache/api"
	"gouache/predict"
)

// noPredictors returns integers that are no number of a predictor.
func noPredictors() []int {
	return []int{-1, 6, -2, -6, 7, 8, 255, 256, 257, -255, -256, 1 << 31, 1<<31 + 1, -1 << 31, 1 << 32, 1<<32 + 5, -1 << 32, 1<<61 + 1, least, least + 1, greatest, greatest - 1}
}

// expectForward reports a call of Forward that does not return these residuals.
func expectForward(t *testing.T, all api.Tile, predictor int, want string) {
	t.Helper()
	if got, err := predict.Forward(all, predictor); got != want || err != api.OK {
		t.Fatalf("predictor %d: the residuals of %v are %v with the error %d, not %v", predictor, all, []byte(got), err, []byte(want))
	}
}

// P10.2: the number of predictors; each of them, and no other one, is accepted.
func TestPredictors(t *testing.T) {
	if got := predict.Predictors(); got != 6 {
		t.Errorf("there are %d predictors", got)
	}
	for predictor := range predict.Predictors() {
		if got, err := predict.Forward(api.Tile{}, predictor); got != strings.Repeat("\x00", 256) || err != api.OK {
			t.Errorf("predictor %d: the residuals of the zero tile are %v with the error %d", predictor, []byte(got), err)
		}
	}
}

// P10.2: what the predictors predict from three neighbours, in each plane and at several places that are neither in the first row nor in the first column.
func TestPredictionFromThreeNeighbours(t *testing.T) {
	for _, x := range []struct {
		left, up, corner int
		want             [6]int
	}{
		{0, 0, 0, [6]int{0, 0, 0, 0, 0, 0}},
		{255, 255, 255, [6]int{0, 255, 255, 255, 255, 255}},
		{10, 20, 0, [6]int{0, 10, 20, 15, 20, 20}},
		// Means with an odd sum are rounded down; sums beyond 255 are not reduced before they are halved.
		{1, 2, 0, [6]int{0, 1, 2, 1, 2, 2}},
		{254, 255, 255, [6]int{0, 254, 255, 254, 254, 254}},
		{0, 255, 127, [6]int{0, 0, 255, 127, 127, 128}},
		{200, 250, 225, [6]int{0, 200, 250, 225, 225, 225}},
		// Two neighbours are equally near to 95: the left one comes before the corner, and so does the upper one.
		{90, 105, 100, [6]int{0, 90, 105, 97, 90, 95}},
		{105, 90, 100, [6]int{0, 105, 90, 97, 90, 95}},
		{110, 95, 100, [6]int{0, 110, 95, 102, 110, 105}},
		{95, 110, 100, [6]int{0, 95, 110, 102, 110, 105}},
		{101, 100, 100, [6]int{0, 101, 100, 100, 101, 101}},
		{100, 101, 100, [6]int{0, 100, 101, 100, 101, 101}},
		// All three are equally near.
		{77, 77, 77, [6]int{0, 77, 77, 77, 77, 77}},
		// The left and the upper neighbour are equal, the corner is far away.
		{80, 80, 90, [6]int{0, 80, 80, 80, 80, 80}},
		{80, 80, 70, [6]int{0, 80, 80, 80, 80, 80}},
		// The slope leads below 0 or above 255: reduced too early, it would be near to another neighbour.
		{10, 20, 255, [6]int{0, 10, 20, 15, 10, 10}},
		{20, 10, 255, [6]int{0, 20, 10, 15, 10, 10}},
		{250, 240, 10, [6]int{0, 250, 240, 245, 250, 250}},
		{240, 250, 10, [6]int{0, 240, 250, 245, 250, 250}},
		{200, 250, 100, [6]int{0, 200, 250, 225, 250, 250}},
		{0, 0, 1, [6]int{0, 0, 0, 0, 0, 0}},
		{0, 1, 2, [6]int{0, 0, 1, 0, 0, 0}},
		{255, 255, 254, [6]int{0, 255, 255, 255, 255, 255}},
		{255, 254, 253, [6]int{0, 255, 254, 254, 255, 255}},
		// The corner equals the greater one of the others, the lesser one, or lies beyond or between them.
		{10, 20, 20, [6]int{0, 10, 20, 15, 10, 10}},
		{20, 10, 20, [6]int{0, 20, 10, 15, 10, 10}},
		{10, 20, 10, [6]int{0, 10, 20, 15, 20, 20}},
		{20, 10, 10, [6]int{0, 20, 10, 15, 20, 20}},
		{10, 20, 21, [6]int{0, 10, 20, 15, 10, 10}},
		{20, 10, 9, [6]int{0, 20, 10, 15, 20, 20}},
		{10, 20, 19, [6]int{0, 10, 20, 15, 10, 11}},
		{20, 10, 11, [6]int{0, 20, 10, 15, 20, 19}},
		{10, 20, 13, [6]int{0, 10, 20, 15, 20, 17}},
		{20, 10, 13, [6]int{0, 20, 10, 15, 20, 17}},
		{0, 255, 100, [6]int{0, 0, 255, 127, 100, 155}},
		{255, 0, 1, [6]int{0, 255, 0, 127, 255, 254}},
	} {
		for n, at := range []int{9, 14, 27, 36, 57, 63} {
			var all planes
			plane, value := n%4, 33+40*n
			all[plane][at-1], all[plane][at-8], all[plane][at-9], all[plane][at] = x.left, x.up, x.corner, value
			for predictor, prediction := range x.want {
				got, err := predict.Forward(all.tile(), predictor)
				if err != api.OK || len(got) != 256 {
					t.Fatalf("predictor %d: %d residuals with the error %d", predictor, len(got), err)
				}
				if residual := int(got[64*plane+at]); residual != reduced(value-prediction) {
					t.Errorf("predictor %d: the residual of %d beside %d, %d and %d is %d, and not that of the prediction %d", predictor, value, x.left, x.up, x.corner, residual, prediction)
				}
			}
		}
	}
}

// P10.2, P10.3: neighbours of all sizes, and all others in the same tile, against the definition.
func TestPredictionFromManyNeighbours(t *testing.T) {
	values := []int{0, 1, 2, 3, 63, 64, 100, 126, 127, 128, 129, 191, 200, 253, 254, 255}
	for n := range len(values) * len(values) * len(values) {
		left, up, corner := values[n%16], values[n/16%16], values[n/256]
		all := planes{
			{corner, up, corner, up, 0, 0, 0, 0, left, 9, left, 250},
			{corner, corner, up, left, up, left, 0, 0, left, left},
			{left, up, corner, 0, up, corner, left, 0, corner, up, left},
			{up, left, up, left, corner, corner, 7, 7, corner, up},
		}.tile()
		for predictor := range 6 {
			expectForward(t, all, predictor, forward(all, predictor))
		}
	}
}

// P10.3: the first value is predicted from 0, the others in the first row from those to their left, and those in the first column from those above them, by all predictors but the first one.
func TestPredictionInFirstRowAndColumn(t *testing.T) {
	row, column := [8]int{200, 10, 255, 0, 7, 8, 7, 131}, [8]int{200, 255, 1, 1, 0, 90, 17, 254}
	all := shaped(func(x, y int) int {
		if y == 0 {
			return row[x]
		}
		return column[y] ^ 85*x
	})
	for predictor := 1; predictor < 6; predictor++ {
		got, err := predict.Forward(all, predictor)
		if err != api.OK || len(got) != 256 {
			t.Fatalf("predictor %d: %d residuals with the error %d", predictor, len(got), err)
		}
		for plane := range 4 {
			residuals := got[64*plane:]
			for n := range 8 {
				inRow, inColumn := 200, 200
				if n > 0 {
					inRow, inColumn = reduced(row[n]-row[n-1]), reduced(column[n]-column[n-1])
				}
				if int(residuals[n]) != inRow || int(residuals[8*n]) != inColumn {
					t.Errorf("predictor %d: the residuals at %d of the first row and column are %d and %d, not %d and %d", predictor, n, residuals[n], residuals[8*n], inRow, inColumn)
				}
			}
		}
	}
}

// P10.3: a single value has a residual where it is, and where it is a neighbour, in each plane and at each place.
func TestForwardOfSingleValues(t *testing.T) {
	for plane := range 4 {
		for i := range 64 {
			for _, value := range []int{1, 128, 255} {
				var all planes
				all[plane][i] = value
				for predictor := range 6 {
					expectForward(t, all.tile(), predictor, forward(all.tile(), predictor))
				}
			}
		}
	}
}

// P10.3: the order of the planes and of the values in them; without a prediction they are seen as they are. Of all channels, only the alpha is not transformed.
func TestForwardOrder(t *testing.T) {
	expectForward(t, filled(of(255, 0, 0, 7)), 0, strings.Repeat("\xbf", 64)+strings.Repeat("\xff", 64)+strings.Repeat("\x81", 64)+strings.Repeat("\x07", 64))
	for i := range 64 {
		var all api.Tile
		all[i] = of(100, 50, 25, 255)
		want := make([]byte, 256)
		want[i], want[64+i], want[128+i], want[192+i] = 184, 75, 244, 255
		expectForward(t, all, 0, string(want))
	}
	for _, all := range someTiles() {
		var want []byte
		for _, plane := range planesOf(all) {
			for _, value := range plane {
				want = append(want, byte(value))
			}
		}
		expectForward(t, all, 0, string(want))
	}
}

// P10.3: the example of the chapter, and slopes in numbers: constant to the right, constant downwards, and both.
func TestForwardOfSomeTiles(t *testing.T) {
	zeros := func(n int) string { return strings.Repeat("\x00", n) }
	expectForward(t, filled(of(10, 10, 10, 255)), 1, "\x0a"+zeros(63)+zeros(128)+"\xff"+zeros(63))

	each := func(plane string) string { return strings.Repeat(plane, 4) }
	right := shaped(func(x, _ int) int { return 100 * x })
	expectForward(t, right, 1, each(strings.Repeat("\x00ddddddd", 8)))
	expectForward(t, right, 2, each("\x00ddddddd"+zeros(56)))
	down := shaped(func(_, y int) int { return 5 + 100*y })
	expectForward(t, down, 1, each("\x05"+zeros(7)+strings.Repeat("d"+zeros(7), 7)))
	expectForward(t, down, 2, each("\x05"+zeros(7)+strings.Repeat("d", 56)))

	// To the right the values rise by 3, and downwards they fall by 5.
	both := shaped(func(x, y int) int { return 100 + 3*x - 5*y })
	expectForward(t, both, 1, each("d\x03\x03\x03\x03\x03\x03\x03"+strings.Repeat("\xfb\x03\x03\x03\x03\x03\x03\x03", 7)))
	expectForward(t, both, 2, each("d\x03\x03\x03\x03\x03\x03\x03"+strings.Repeat("\xfb\xfb\xfb\xfb\xfb\xfb\xfb\xfb", 7)))
	expectForward(t, both, 3, each("d\x03\x03\x03\x03\x03\x03\x03"+strings.Repeat("\xfb\xff\xff\xff\xff\xff\xff\xff", 7)))
	expectForward(t, both, 4, each("d\x03\x03\x03\x03\x03\x03\x03"+strings.Repeat("\xfb\xfe\xfe\xfe\xfe\xfe\xfe\xfe", 7)))
	expectForward(t, both, 5, each("d\x03\x03\x03\x03\x03\x03\x03"+strings.Repeat("\xfb"+zeros(7), 7)))
}

// P10.3: tiles of all kinds, against the definition.
func TestForwardOfAllKindsOfTiles(t *testing.T) {
	for _, all := range someTiles() {
		for predictor := range 6 {
			expectForward(t, all, predictor, forward(all, predictor))
		}
	}
}

// P10.3: a predictor out of range is an error, without residuals.
func TestForwardErrors(t *testing.T) {
	for _, predictor := range noPredictors() {
		for _, all := range []api.Tile{{}, random(1)} {
			if got, err := predict.Forward(all, predictor); got != "" || err != api.ErrArg {
				t.Errorf("predictor %d: the residuals are %v with the error %d", predictor, []byte(got), err)
			}
		}
	}
}

// P10.6: of a solid tile, only the first byte of each plane is not zero, for every predictor from 1 on; it is the value itself.
func TestForwardOfSolidTiles(t *testing.T) {
	next := scatter(1)
	pixels := []api.Pixel{{}, of(255, 255, 255, 255), of(1, 0, 0, 0), of(0, 255, 0, 1), of(0, 0, 255, 254), of(128, 127, 129, 128)}
	for range 100 {
		pixels = append(pixels, of(uint8(next(256)), uint8(next(256)), uint8(next(256)), uint8(next(256))))
	}
	for _, p := range pixels {
		want := make([]byte, 256)
		y, u, v := swapped(int(p.R), int(p.G), int(p.B))
		want[0], want[64], want[128], want[192] = byte(y), byte(u), byte(v), p.A
		for predictor := 1; predictor < 6; predictor++ {
			expectForward(t, filled(p), predictor, string(want))
		}
	}
}
