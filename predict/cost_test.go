package predict_test

import (
	"slices"
	"strings"
	"testing"

	"gouache/api"
	"gouache/predict"
)

// P10.5: the empty string, the example of the chapter, and bytes on both sides of 128.
func TestCost(t *testing.T) {
	for _, x := range []struct {
		residuals string
		want      int
	}{
		{"", 0}, {"\x00", 0}, {"\x01", 1}, {"\x7f", 127}, {"\x80", 128}, {"\x81", 127}, {"\xff", 1}, {"\xfe", 2},
		{"\x01\xff\x80", 130}, {"\x00\x01\x7f\x80\x81\xff", 384}, {"\x00\x00\x00", 0}, {"\xff\xff", 2}, {"\x80\x80\x80", 384}, {"a\xc3\xa9", 97 + 61 + 87},
	} {
		if got := predict.Cost(x.residuals); got != x.want {
			t.Errorf("the cost of %v is %d, not %d", []byte(x.residuals), got, x.want)
		}
	}
}

// P10.5: each byte by itself, the nearer one of 0 and 256.
func TestCostOfEachByte(t *testing.T) {
	for r := range 256 {
		if got := predict.Cost(string([]byte{byte(r)})); got != r && got != 256-r || got > 128 {
			t.Errorf("the cost of %d is %d", r, got)
		}
	}
}

// P10.5: strings of any length, not only of 256 bytes; each byte counts, wherever it is.
func TestCostOfAnyLength(t *testing.T) {
	for _, length := range []int{1, 2, 3, 63, 64, 65, 255, 256, 257, 1000, 65536, 1<<20 + 1} {
		s := scatteredBytes(uint64(length), length)
		if got := predict.Cost(s); got != cost(s) {
			t.Errorf("the cost of %d bytes is %d, not %d", length, got, cost(s))
		}
		if got := predict.Cost(strings.Repeat("\x80", length)); got != 128*length {
			t.Errorf("the cost of %d bytes of 128 is %d", length, got)
		}
		for _, at := range []int{0, length / 2, length - 1} {
			one := strings.Repeat("\x00", at) + "\xf0" + strings.Repeat("\x00", length-1-at)
			if got := predict.Cost(one); got != 16 {
				t.Errorf("the cost of 240 at %d of %d bytes is %d", at, length, got)
			}
		}
	}
	// The sum is beyond 32 bits.
	if got := predict.Cost(strings.Repeat("\x80", 1<<25+1)); got != 1<<32+128 {
		t.Errorf("the cost of 2^25 + 1 bytes of 128 is %d", got)
	}
}

// P10.5: where several predictors cost the same, the one with the lowest number is the best; the costs are written down to show the equal ones.
func TestBestOfEqualCosts(t *testing.T) {
	for _, x := range []struct {
		name  string
		tile  api.Tile
		costs [6]int
		want  int
	}{
		{"zero", api.Tile{}, [6]int{0, 0, 0, 0, 0, 0}, 0},
		{"solid", filled(of(10, 10, 10, 255)), [6]int{704, 11, 11, 11, 11, 11}, 1},
		{"rows", shaped(func(_, y int) int { return 9 * y * y }), [6]int{13056, 1764, 14112, 8820, 1764, 1764}, 1},
		{"columns", shaped(func(x, _ int) int { return 9 * x * x }), [6]int{13056, 14112, 1764, 8820, 1764, 1764}, 2},
		{"one pixel, the last one", api.Tile{63: of(10, 10, 10, 10)}, [6]int{20, 20, 20, 20, 20, 20}, 0},
		{"a slope", shaped(func(x, y int) int { return 100 + 3*x + 5*y }), [6]int{29920, 1212, 1604, 1408, 1212, 1212}, 1},
	} {
		if got := costs(x.tile); got != x.costs {
			t.Errorf("the costs of %s are %v, not %v", x.name, got, x.costs)
		}
		if got := predict.Best(x.tile); got != x.want {
			t.Errorf("the best predictor of %s is %d, not %d", x.name, got, x.want)
		}
	}
}

// P10.5: the lowest cost, and the first of several; each predictor is the only best one of many tiles, and shares the lowest cost of some.
func TestBestOfManyTiles(t *testing.T) {
	var alone, shared [6]int
	tiles := someTiles()
	for seed := range uint64(1500) {
		tiles = append(tiles, rough(seed), noisy(seed))
	}
	for _, all := range tiles {
		sums := costs(all)
		lowest := slices.Min(sums[:])
		want := slices.Index(sums[:], lowest)
		if got := predict.Best(all); got != want {
			t.Errorf("the best predictor of %v is %d, not %d: the costs are %v", all, got, want, sums)
		}
		if slices.Contains(sums[want+1:], lowest) {
			shared[want]++
		} else {
			alone[want]++
		}
	}
	if slices.Min(alone[:]) < 5 || slices.Min(shared[:3]) < 5 {
		t.Errorf("the predictors are the only best ones %v times, and the first of several %v times", alone, shared)
	}
}
