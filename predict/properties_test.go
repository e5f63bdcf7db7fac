package predict_test

import (
	"slices"
	"strings"
	"testing"

	"gouache/api"
	"gouache/predict"
)

// result is what Forward and Inverse return for the same predictor.
type result struct {
	residuals  string
	tile       api.Tile
	errs       [2]api.Errno
	cost, best int
}

// resultsOf returns the results of all calls with a tile, a string and a predictor.
func resultsOf(all api.Tile, s string, predictor int) result {
	residuals, errForward := predict.Forward(all, predictor)
	inverted, errInverse := predict.Inverse(s, predictor)
	return result{residuals, inverted, [2]api.Errno{errForward, errInverse}, predict.Cost(s), predict.Best(all)}
}

// wanted returns what the chapter says of these calls.
func wanted(all api.Tile, s string, predictor int) result {
	sums := costs(all)
	want := result{cost: cost(s), best: slices.Index(sums[:], slices.Min(sums[:]))}
	if predictor < 0 || predictor > 5 {
		want.errs = [2]api.Errno{api.ErrArg, api.ErrArg}
		return want
	}
	want.residuals = forward(all, predictor)
	if len(s) != 256 {
		want.errs[1] = api.ErrForm
		return want
	}
	want.tile = inverse(s, predictor)
	return want
}

// tileOfString returns a tile with the bytes of a string as its channels, from the first one on; the other channels are zero.
func tileOfString(s string) api.Tile {
	padded := s + strings.Repeat("\x00", 256)
	var all api.Tile
	for i := range all {
		all[i] = of(padded[4*i], padded[4*i+1], padded[4*i+2], padded[4*i+3])
	}
	return all
}

// expectRules reports calls that return anything else than the chapter says, or something else when they are repeated (R4).
func expectRules(t *testing.T, all api.Tile, s string, predictor int) {
	t.Helper()
	got, want := resultsOf(all, s, predictor), wanted(all, s, predictor)
	if got != want {
		t.Errorf("predictor %d: the results for %v and %q are %v, not %v", predictor, all, s, got, want)
	}
	if again := resultsOf(all, s, predictor); got != again {
		t.Errorf("predictor %d: the results for %v and %q are %v, and then %v", predictor, all, s, got, again)
	}
	if got.errs == [2]api.Errno{} {
		expectInverse(t, got.residuals, predictor, all)
		expectForward(t, got.tile, predictor, s)
	}
}

// P1, R2, R4, R5: all calls with arbitrary integers and bytes.
func FuzzPredictionsFollowTheirRules(f *testing.F) {
	f.Add("", 0)
	f.Add("\x01\xff\x80", -1)
	f.Add(scatteredBytes(1, 255), 1)
	f.Add(scatteredBytes(2, 256), 2)
	f.Add(scatteredBytes(3, 257), 3)
	f.Add(strings.Repeat("\x00\xff", 128), 4)
	f.Add(strings.Repeat("\x7f\x80\x81\x01", 64), 5)
	f.Add(scatteredBytes(4, 256), 6)
	f.Add(scatteredBytes(5, 1000), least)
	f.Add(scatteredBytes(6, 256), greatest)
	f.Fuzz(func(t *testing.T, s string, predictor int) {
		expectRules(t, tileOfString(s), s, predictor)
		expectRules(t, tileOfString(s), s, reduced(predictor)%6)
	})
}

// P1, R5: predictors in range and out of range with strings of many lengths.
func TestArbitraryArguments(t *testing.T) {
	for predictor := range 6 {
		for length := range 600 {
			s := scatteredBytes(uint64(600*predictor+length), length)
			expectRules(t, tileOfString(s), s, predictor)
		}
	}
	for i, predictor := range noPredictors() {
		for _, length := range []int{0, 1, 255, 256, 257, 65536} {
			s := scatteredBytes(uint64(i), length)
			expectRules(t, tileOfString(s), s, predictor)
		}
	}
}
