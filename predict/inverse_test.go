package predict_test

import (
	"strings"
	"testing"

	"gouache/api"
	"gouache/predict"
)

// expectInverse reports a call of Inverse that does not return this tile.
func expectInverse(t *testing.T, residuals string, predictor int, want api.Tile) {
	t.Helper()
	if got, err := predict.Inverse(residuals, predictor); got != want || err != api.OK {
		t.Fatalf("predictor %d: the tile of %v is %v with the error %d, not %v", predictor, []byte(residuals), got, err, want)
	}
}

// someResiduals returns strings of 256 bytes: random ones, those of a single byte, and those of one byte at a single place.
func someResiduals() []string {
	all := []string{strings.Repeat("\x01\xff", 128), strings.Repeat("\x80\x7f\x01", 86)[:256]}
	for _, r := range []string{"\x00", "\x01", "\x7f", "\x80", "\xff"} {
		all = append(all, strings.Repeat(r, 256))
	}
	for i := range 256 {
		all = append(all, strings.Repeat("\x00", i)+"\xff"+strings.Repeat("\x00", 255-i))
	}
	for seed := range uint64(200) {
		all = append(all, scatteredBytes(seed, 256))
	}
	return all
}

// P10.4: any 256 bytes are those of a tile, which the definition finds value by value.
func TestInverseOfAnyBytes(t *testing.T) {
	for _, residuals := range someResiduals() {
		for predictor := range 6 {
			expectInverse(t, residuals, predictor, inverse(residuals, predictor))
		}
	}
}

// P10.4: tiles in numbers. Transparent pixels keep their colours: the tile is not cleaned.
func TestInverseOfSomeBytes(t *testing.T) {
	zeros := func(n int) string { return strings.Repeat("\x00", n) }
	first := func(y, u, v, alpha string) string {
		return y + zeros(63) + u + zeros(63) + v + zeros(63) + alpha + zeros(63)
	}
	for predictor := 1; predictor < 6; predictor++ {
		expectInverse(t, first("\x0a", "\x00", "\x00", "\xff"), predictor, filled(of(10, 10, 10, 255)))
		expectInverse(t, first("\xbf", "\xff", "\x81", "\x00"), predictor, filled(of(255, 0, 0, 0)))
		expectInverse(t, first("\xb8", "\x4b", "\xf4", "\x01"), predictor, filled(of(100, 50, 25, 1)))
		expectInverse(t, zeros(256), predictor, api.Tile{})
	}
	expectInverse(t, zeros(256), 0, api.Tile{})
	expectInverse(t, first("\xbf", "\xff", "\x81", "\x00"), 0, api.Tile{of(255, 0, 0, 0)})
	expectInverse(t, zeros(63)+"\x01"+zeros(63)+"\x03"+zeros(63)+"\x05"+zeros(63)+"\x07", 0, api.Tile{63: of(1, 4, 254, 7)})
	// Each plane rises by 100 from column to column, modulo 256.
	expectInverse(t, strings.Repeat("\x00ddddddd", 32), 1, shaped(func(x, _ int) int { return 100 * x }))
	expectInverse(t, strings.Repeat("\x00ddddddd"+zeros(56), 4), 2, shaped(func(x, _ int) int { return 100 * x }))
}

// P10.4: strings of any other length are an error, without a tile.
func TestInverseOfOtherLengths(t *testing.T) {
	for _, length := range []int{0, 1, 4, 64, 192, 255, 257, 258, 320, 511, 512, 65536, 65792} {
		for predictor := range 6 {
			if got, err := predict.Inverse(strings.Repeat("x", length), predictor); got != (api.Tile{}) || err != api.ErrForm {
				t.Errorf("predictor %d: the tile of %d bytes is %v with the error %d", predictor, length, got, err)
			}
		}
	}
}

// P10.4, R2: a predictor out of range is an error, without a tile; it comes before that of the length.
func TestInverseErrors(t *testing.T) {
	for _, predictor := range noPredictors() {
		for _, length := range []int{0, 255, 256, 257} {
			if got, err := predict.Inverse(strings.Repeat("x", length), predictor); got != (api.Tile{}) || err != api.ErrArg {
				t.Errorf("predictor %d: the tile of %d bytes is %v with the error %d", predictor, length, got, err)
			}
		}
	}
}

// P10.6: Inverse undoes Forward, for tiles of all kinds, also for those that are not clean.
func TestInverseOfForward(t *testing.T) {
	tiles := someTiles()
	for seed := range uint64(300) {
		tiles = append(tiles, rough(1000+seed), random(1000+seed))
	}
	for _, all := range tiles {
		for predictor := range 6 {
			residuals, err := predict.Forward(all, predictor)
			if len(residuals) != 256 || err != api.OK {
				t.Errorf("predictor %d: %d residuals with the error %d", predictor, len(residuals), err)
			}
			expectInverse(t, residuals, predictor, all)
		}
	}
}

// P10.6: Forward undoes Inverse, for any 256 bytes.
func TestForwardOfInverse(t *testing.T) {
	for _, residuals := range someResiduals() {
		for predictor := range 6 {
			all, err := predict.Inverse(residuals, predictor)
			if err != api.OK {
				t.Errorf("predictor %d: the tile of %v has the error %d", predictor, []byte(residuals), err)
			}
			expectForward(t, all, predictor, residuals)
		}
	}
}
