package colour_test

import (
	"math"
	"math/big"
	"reflect"
	"slices"
	"testing"

	"gouache/api"
	"gouache/colour"
)

const (
	least    = math.MinInt
	greatest = math.MaxInt
)

// clamped returns the integer from low to high that is nearest to v.
func clamped(v, low, high int) int {
	switch {
	case v < low:
		return low
	case v > high:
		return high
	}
	return v
}

// clampedColour clamps each channel of a colour.
func clampedColour(c api.Colour, low, high int) api.Colour {
	return api.Colour{clamped(c[0], low, high), clamped(c[1], low, high), clamped(c[2], low, high)}
}

// floor returns the greatest integer up to x.
func floor(x *big.Rat) int {
	return int(new(big.Int).Div(x.Num(), x.Denom()).Int64())
}

// roundHalfUp returns the integer nearest to x, or the greater one of the two.
func roundHalfUp(x *big.Rat) int {
	return floor(new(big.Rat).Add(x, big.NewRat(1, 2)))
}

// fraction returns n / d.
func fraction(n, d int) *big.Rat {
	return big.NewRat(int64(n), int64(d))
}

// isInGamut reports whether all channels are from 0 to 65535.
func isInGamut(c api.Colour) bool {
	for _, v := range c {
		if v < 0 || v > 65535 {
			return false
		}
	}
	return true
}

// combined returns all colours whose channels are among these values.
func combined(values ...int) []api.Colour {
	var colours []api.Colour
	for _, r := range values {
		for _, g := range values {
			for _, b := range values {
				colours = append(colours, api.Colour{r, g, b})
			}
		}
	}
	return colours
}

// scattered returns these many colours that differ widely, with channels from low to high.
func scattered(count, low, high int) []api.Colour {
	colours := make([]api.Colour, count)
	state := uint64(12345)
	for k := range colours {
		for i := range colours[k] {
			state = state*6364136223846793005 + 1442695040888963407
			colours[k][i] = low + int(state>>20)%(high-low+1)
		}
	}
	return colours
}

// inGamutColours returns colours of all kinds whose channels are from 0 to 65535.
func inGamutColours() []api.Colour {
	return append(combined(0, 1, 30000, 32768, 65534, 65535), scattered(300, 0, 65535)...)
}

// outOfGamutColours returns colours with channels on both sides of each bound, close to it and far from it.
func outOfGamutColours() []api.Colour {
	colours := combined(least, -1<<24-1, -1<<24, -70000, -1, 0, 40000, 65535, 65536, 1<<24, 1<<24+1, greatest)
	colours = append(colours, scattered(300, -100000, 165535)...)
	colours = append(colours, scattered(300, -1<<24-1<<20, 1<<24+1<<20)...)
	colours = append(colours, scattered(100, -1<<40, 1<<40)...)
	return slices.DeleteFunc(colours, isInGamut)
}

// allColours returns colours in gamut and out of gamut.
func allColours() []api.Colour {
	return append(inGamutColours(), outOfGamutColours()...)
}

// copied returns a chain that shares no memory with another one.
func copied(chain []api.Space) []api.Space {
	result := slices.Clone(chain)
	for k := range result {
		for i, c := range result[k].Curve {
			result[k].Curve[i] = slices.Clone(c)
		}
	}
	return result
}

// P6.1: all channel values, in each channel, and pixels that are not clean.
func TestWide(t *testing.T) {
	for v := range 256 {
		w := 255 - v
		for _, alpha := range []uint8{0, 1, 255, uint8(v)} {
			p := api.Pixel{R: uint8(v), G: uint8(w), B: 7, A: alpha}
			if got, want := colour.Wide(p), (api.Colour{257 * v, 257 * w, 1799}); got != want {
				t.Errorf("Wide(%v) is %v, not %v", p, got, want)
			}
			p = api.Pixel{R: 255, G: 0, B: uint8(v), A: alpha}
			if got, want := colour.Wide(p), (api.Colour{65535, 0, 257 * v}); got != want {
				t.Errorf("Wide(%v) is %v, not %v", p, got, want)
			}
		}
	}
}

// P6.1: the example of the chapter, and channels around the places where the result changes.
func TestNarrow(t *testing.T) {
	for _, x := range []struct {
		c     api.Colour
		alpha int
		want  api.Pixel
	}{
		{api.Colour{65535, 300, 0}, 255, api.Pixel{R: 255, G: 1, B: 0, A: 255}},
		{api.Colour{128, 129, 385}, 9, api.Pixel{R: 0, G: 1, B: 1, A: 9}},
		{api.Colour{386, 65406, 65407}, 9, api.Pixel{R: 2, G: 254, B: 255, A: 9}},
		{api.Colour{-1, 65536, 70000}, 1, api.Pixel{R: 0, G: 255, B: 255, A: 1}},
		{api.Colour{least, greatest, 32768}, 255, api.Pixel{R: 0, G: 255, B: 128, A: 255}},
		{api.Colour{greatest - 100, least, 32767}, 255, api.Pixel{R: 255, G: 0, B: 127, A: 255}},
		{api.Colour{1 << 32, -1 << 32, 1<<32 + 300}, 255, api.Pixel{R: 255, G: 0, B: 255, A: 255}},
		{api.Colour{65535, 300, 0}, 0, api.Pixel{}},
		{api.Colour{65535, 300, 0}, -1, api.Pixel{}},
		{api.Colour{65535, 300, 0}, -256, api.Pixel{}},
		{api.Colour{65535, 300, 0}, least, api.Pixel{}},
		{api.Colour{65535, 300, 0}, 256, api.Pixel{R: 255, G: 1, B: 0, A: 255}},
		{api.Colour{65535, 300, 0}, 512, api.Pixel{R: 255, G: 1, B: 0, A: 255}},
		{api.Colour{65535, 300, 0}, greatest, api.Pixel{R: 255, G: 1, B: 0, A: 255}},
	} {
		if got := colour.Narrow(x.c, x.alpha); got != x.want {
			t.Errorf("Narrow(%v, %d) is %v, not %v", x.c, x.alpha, got, x.want)
		}
	}
}

// P6.1: all channels in range, in each place, and all alphas.
func TestNarrowOfAllChannels(t *testing.T) {
	for v := range 65536 {
		rounded, alpha := uint8((v+128)/257), v%255+1
		for i := range 3 {
			c := api.Colour{65535, 65535, 65535}
			c[i] = v
			channels := [3]uint8{255, 255, 255}
			channels[i] = rounded
			want := api.Pixel{R: channels[0], G: channels[1], B: channels[2], A: uint8(alpha)}
			if got := colour.Narrow(c, alpha); got != want {
				t.Fatalf("Narrow(%v, %d) is %v, not %v", c, alpha, got, want)
			}
		}
	}
}

// P6.1: Narrow undoes Wide, but for what a transparent pixel does not show.
func TestNarrowUndoesWide(t *testing.T) {
	for v := range 256 {
		for _, alpha := range []uint8{0, 1, 100, 255} {
			p := api.Pixel{R: uint8(v), G: uint8(255 - v), B: uint8(v * 7), A: alpha}
			want := p
			if alpha == 0 {
				want = api.Pixel{}
			}
			if got := colour.Narrow(colour.Wide(p), int(alpha)); got != want {
				t.Errorf("Narrow of Wide(%v) is %v", p, got)
			}
		}
	}
}

// R3: no call changes its arguments, whether they are valid or not.
func TestArgumentsStayAsTheyAre(t *testing.T) {
	chains := [][]api.Space{validSpaces()[:8], {quadratic(), colour.Device()}, invalidSpaces()[:3], append(validSpaces()[:2], invalidSpaces()...), validSpaces()[:1], nil}
	table, _ := colour.Table([]api.Space{quadratic(), colour.Device()}, 5)
	for _, chain := range chains {
		for _, some := range [][]api.Colour{inGamutColours()[:100], allColours()[200:300], make([]api.Colour, 4097)} {
			for _, g := range []api.Grid{table, {N: 2, V: combined(-1, 65536)}} {
				chainBefore, someBefore, gridBefore := copied(chain), slices.Clone(some), slices.Clone(g.V)
				for _, s := range chain {
					colour.Valid(s)
					colour.To(s, some[0])
					colour.From(s, some[0])
				}
				colour.Convert(chain, some[0])
				colour.Table(chain, 3)
				colour.Look(g, some[0])
				colour.Worst(chain, g, some)
				colour.Simplify(chain, some)
				colour.Pixel(chain, api.Pixel{R: 1, G: 2, B: 3, A: 4})
				if !reflect.DeepEqual(chain, chainBefore) || !slices.Equal(some, someBefore) || !slices.Equal(g.V, gridBefore) {
					t.Errorf("a chain of %d spaces, %d colours or a grid of %d points has changed", len(chain), len(some), g.N)
				}
			}
		}
	}
}

// R3: results share no memory with one another or with what the package keeps.
func TestResultsAreNewMemory(t *testing.T) {
	s := colour.Device()
	for i := range s.Curve {
		s.Curve[i][0], s.Curve[i][1] = i, 100+i
	}
	for i := range s.Curve {
		if !slices.Equal(s.Curve[i], api.Curve{i, 100 + i}) {
			t.Errorf("curve %d of Device is %v", i, s.Curve[i])
		}
	}
	if again := colour.Device(); !slices.Equal(again.Curve[1], api.Curve{0, 65535}) {
		t.Errorf("the curve of another Device is %v", again.Curve[1])
	}
	chain := []api.Space{colour.Device(), quadratic()}
	for _, table := range []func() api.Grid{
		func() api.Grid { g, _ := colour.Table(chain, 3); return g },
		func() api.Grid { g, _ := colour.Simplify(chain, inGamutColours()[:3]); return g },
	} {
		first := table()
		before := slices.Clone(first.V)
		clear(first.V)
		if second := table(); !slices.Equal(second.V, before) {
			t.Errorf("a table of %d points differs after another one has been changed", first.N)
		}
	}
}
