package colour_test

import (
	"math/big"
	"testing"

	"gouache/api"
	"gouache/colour"
)

// greyOf returns the grey of the mean of channels that have been clamped.
func greyOf(c api.Colour) int {
	return clamped(floor(fraction(c[0]+c[1]+c[2]+1, 3)), 0, 65535)
}

// exactClip moves a colour towards its grey, with rational numbers, until the last channel is in range.
func exactClip(c api.Colour) api.Colour {
	c = clampedColour(c, -1<<24, 1<<24)
	if isInGamut(c) {
		return c
	}
	grey := greyOf(c)
	ratio := big.NewRat(1, 1)
	for _, v := range c {
		if v == clamped(v, 0, 65535) {
			continue
		}
		if r := fraction(clamped(v, 0, 65535)-grey, v-grey); r.Cmp(ratio) < 0 {
			ratio = r
		}
	}
	for i, v := range c {
		moved := new(big.Rat).Mul(ratio, fraction(v-grey, 1))
		// Quo rounds towards 0.
		c[i] = grey + int(new(big.Int).Quo(moved.Num(), moved.Denom()).Int64())
	}
	return c
}

// P6.3: the example of the chapter, and colours with one, two and three channels out of range, with equal ratios, and with a mean out of range.
func TestClip(t *testing.T) {
	for _, x := range []struct{ c, want api.Colour }{
		{api.Colour{70000, 0, 0}, api.Colour{65535, 2233, 2233}},
		{api.Colour{0, 70000, 0}, api.Colour{2233, 65535, 2233}},
		{api.Colour{0, 0, 70000}, api.Colour{2233, 2233, 65535}},
		{api.Colour{-3000, 30000, 60000}, api.Colour{0, 29906, 57093}},
		{api.Colour{30000, 60000, -3000}, api.Colour{29906, 57093, 0}},
		// A half of each distance from the grey is kept: the quotients 2.5, 0.5 and -1.5 are rounded towards 0.
		{api.Colour{-2, 0, 7}, api.Colour{0, 1, 4}},
		{api.Colour{0, 7, -2}, api.Colour{1, 4, 0}},
		{api.Colour{65536, 65535, 65530}, api.Colour{65535, 65534, 65532}},
		{api.Colour{65536, 65535, 65531}, api.Colour{65535, 65534, 65533}},
		// Two channels are out of range on the same side: the farther one decides.
		{api.Colour{-3000, -6000, 60000}, api.Colour{2218, 0, 48782}},
		{api.Colour{-100, -100, 300}, api.Colour{0, 0, 99}},
		{api.Colour{80000, 80000, 0}, api.Colour{65535, 65535, 28930}},
		{api.Colour{66000, 70000, 20000}, api.Colour{62527, 65535, 27938}},
		// Two channels are out of range on both sides, of which the first or the second one decides.
		{api.Colour{-1000, 32768, 66535}, api.Colour{1, 32768, 65535}},
		{api.Colour{-1000, 32766, 66535}, api.Colour{0, 32767, 65534}},
		{api.Colour{-10, 70000, 100}, api.Colour{2228, 65535, 2328}},
		{api.Colour{-70000, 70000, 60000}, api.Colour{0, 31111, 28888}},
		// The ratios of two and of three channels on both sides are equal.
		{api.Colour{-2000, 68535, 12107}, api.Colour{0, 65535, 13107}},
		{api.Colour{68535, 12107, -2000}, api.Colour{65535, 13107, 0}},
		{api.Colour{-1000, 67535, -1000}, api.Colour{0, 65535, 0}},
		{api.Colour{66535, -2000, 66535}, api.Colour{65535, 0, 65535}},
		// All three channels are out of range.
		{api.Colour{-1, 65536, 70000}, api.Colour{8126, 61873, 65535}},
		{api.Colour{-1, -2, 70000}, api.Colour{2232, 2231, 65535}},
		{api.Colour{-5, -5, -5}, api.Colour{0, 0, 0}},
		{api.Colour{-5, -6, -7000}, api.Colour{0, 0, 0}},
		{api.Colour{65536, 65537, 65538}, api.Colour{65535, 65535, 65535}},
		{api.Colour{200000, -1, 65536}, api.Colour{65535, 65535, 65535}},
		// The mean is at the end of the gamut, and just before it.
		{api.Colour{-1, 0, 0}, api.Colour{0, 0, 0}},
		{api.Colour{-1, 0, 1}, api.Colour{0, 0, 0}},
		{api.Colour{-1, 1, 1}, api.Colour{0, 0, 0}},
		{api.Colour{-1, 1, 2}, api.Colour{0, 1, 1}},
		{api.Colour{65536, 65535, 65535}, api.Colour{65535, 65535, 65535}},
		{api.Colour{65536, 65535, 65534}, api.Colour{65535, 65535, 65535}},
		{api.Colour{70000, 61070, 65535}, api.Colour{65535, 65535, 65535}},
		{api.Colour{70000, 60000, 60000}, api.Colour{65535, 62233, 62233}},
		// Channels are clamped to -2^24 to 2^24 before anything else.
		{api.Colour{1 << 24, -1 << 24, 30000}, api.Colour{19988, 0, 10011}},
		{api.Colour{1<<24 + 100000, -1 << 24, 30000}, api.Colour{19988, 0, 10011}},
		{api.Colour{1 << 24, -1<<24 - 29000, 30000}, api.Colour{19988, 0, 10011}},
		{api.Colour{greatest, least, 30000}, api.Colour{19988, 0, 10011}},
		{api.Colour{1<<24 - 100, -1 << 24, 30000}, api.Colour{19922, 0, 9978}},
		{api.Colour{greatest, greatest, greatest}, api.Colour{65535, 65535, 65535}},
		{api.Colour{least, least, least}, api.Colour{0, 0, 0}},
		{api.Colour{greatest, least, least}, api.Colour{0, 0, 0}},
		{api.Colour{greatest, greatest, least}, api.Colour{65535, 65535, 65535}},
	} {
		if got := colour.Clip(x.c); got != x.want {
			t.Errorf("Clip(%v) is %v, not %v (%v)", x.c, got, x.want, exactClip(x.c))
		}
	}
}

// P6.3: colours of all kinds, with rational numbers.
func TestClipIsExactlyRounded(t *testing.T) {
	colours := append(allColours(), combined(-70000, -3, -2, -1, 0, 1, 2, 21845, 32767, 65533, 65534, 65535, 65536, 65537, 65538, 140000)...)
	for _, c := range append(colours, scattered(3000, -10, 65545)...) {
		if got, want := colour.Clip(c), exactClip(c); got != want {
			t.Fatalf("Clip(%v) is %v, not %v", c, got, want)
		}
	}
}

// P6.8: colours in gamut are unchanged.
func TestClipKeepsTheGamut(t *testing.T) {
	for _, c := range inGamutColours() {
		if got := colour.Clip(c); got != c {
			t.Errorf("Clip(%v) is %v", c, got)
		}
	}
}

// P6.8: a clipped colour is in gamut, and between the original and its grey; clipped again, it is the same.
func TestClipMovesTowardsTheGrey(t *testing.T) {
	for _, c := range outOfGamutColours() {
		got := colour.Clip(c)
		if !isInGamut(got) || colour.Clip(got) != got {
			t.Fatalf("Clip(%v) is %v", c, got)
		}
		original := clampedColour(c, -1<<24, 1<<24)
		grey := greyOf(original)
		for i, v := range original {
			if got[i] != clamped(got[i], min(v, grey), max(v, grey)) {
				t.Fatalf("Clip(%v) is %v, and its grey is %d", c, got, grey)
			}
		}
	}
}
