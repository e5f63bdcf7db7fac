package colour_test

import (
	"testing"

	"gouache/api"
	"gouache/colour"
	"gouache/curve"
)

// exactConvert converts along a valid chain.
func exactConvert(chain []api.Space, c api.Colour) api.Colour {
	for i := 1; i < len(chain); i++ {
		c = exactFrom(chain[i], exactTo(chain[i-1], c))
	}
	return c
}

// validChains returns chains of 1 to 8 spaces.
func validChains() [][]api.Space {
	all := validSpaces()
	chains := [][]api.Space{{colour.Device()}, {quadratic()}, {quadratic(), colour.Device()}, {colour.Device(), quadratic()}, {photographic(), quadratic(), photographic()}}
	for count := 1; count <= 8; count++ {
		chains = append(chains, all[:count], all[len(all)-count:])
	}
	for _, s := range all {
		chains = append(chains, []api.Space{s, colour.Device()}, []api.Space{photographic(), s})
	}
	return chains
}

// invalidChain is a chain with the error of converting along it.
type invalidChain struct {
	name  string
	chain []api.Space
	err   api.Errno
}

// invalidChains returns chains that are empty, too long, and with an invalid space at each place.
func invalidChains() []invalidChain {
	chains := []invalidChain{
		{"nil", nil, api.ErrArg},
		{"empty", []api.Space{}, api.ErrArg},
		{"9 valid spaces", repeated(quadratic(), 9), api.ErrMany},
		{"9 invalid spaces", make([]api.Space, 9), api.ErrMany},
		{"10000 invalid spaces", make([]api.Space, 10000), api.ErrMany},
	}
	for k, bad := range invalidSpaces() {
		chains = append(chains, invalidChain{"1 invalid space", []api.Space{bad}, api.ErrSpace})
		count := 2 + k%7
		for i := range count {
			chain := repeated(quadratic(), count)
			chain[i] = bad
			chains = append(chains, invalidChain{"an invalid space in a chain", chain, api.ErrSpace})
		}
	}
	for i := range 9 {
		chain := repeated(colour.Device(), 9)
		chain[i] = api.Space{}
		chains = append(chains, invalidChain{"9 spaces with an invalid one", chain, api.ErrMany})
	}
	return chains
}

// repeated returns a chain of equal spaces.
func repeated(s api.Space, count int) []api.Space {
	chain := make([]api.Space, count)
	for i := range chain {
		chain[i] = s
	}
	return chain
}

// P6.4: results in numbers.
func TestConvert(t *testing.T) {
	swapped := quadratic()
	for i := range swapped.Curve {
		swapped.Curve[i] = api.Curve{0, 16384, 65535}
	}
	bright := spaceOf(diagonal(8192, 8192, 8192), diagonal(2048, 2048, 2048))
	for _, x := range []struct {
		name    string
		chain   []api.Space
		c, want api.Colour
	}{
		{"swapped", []api.Space{swapped, colour.Device()}, api.Colour{0, 65535, 20000}, api.Colour{65535, 0, 10000}},
		{"into swapped", []api.Space{colour.Device(), swapped}, api.Colour{65535, 0, 10000}, api.Colour{0, 65535, 19999}},
		{"through device", []api.Space{swapped, colour.Device(), swapped}, api.Colour{1234, 40000, 65535}, api.Colour{1233, 40000, 65535}},
		{"bright", []api.Space{bright, colour.Device()}, api.Colour{10000, 20000, 30000}, api.Colour{20000, 40000, 60000}},
		{"bright, clipped", []api.Space{bright, colour.Device()}, api.Colour{35000, 0, 0}, api.Colour{65535, 2233, 2233}},
		{"bright, clipped on the way", []api.Space{bright, colour.Device(), bright}, api.Colour{35000, 0, 0}, api.Colour{32768, 1117, 1117}},
		{"beyond the gamut", []api.Space{colour.Device(), colour.Device()}, api.Colour{-5, 70000, 9}, api.Colour{0, 65535, 9}},
	} {
		if got, err := colour.Convert(x.chain, x.c); got != x.want || err != api.OK {
			t.Errorf("Convert (%s) of %v is %v, %v, not %v", x.name, x.c, got, err, x.want)
		}
	}
}

// P6.4: a chain of one space returns what it is given, in gamut or not.
func TestConvertAlongOneSpace(t *testing.T) {
	for _, s := range validSpaces() {
		for _, c := range append(combined(least, 1<<24+1, 65536, 65535, 0, -1, -1<<24-1, greatest), scattered(20, 0, 65535)...) {
			if got, err := colour.Convert([]api.Space{s}, c); got != c || err != api.OK {
				t.Fatalf("Convert of %v along one space is %v, %v", c, got, err)
			}
		}
	}
}

// P6.4: chains of all lengths and colours of all kinds.
func TestConvertIsToAndFromInTurn(t *testing.T) {
	colours := append(scattered(40, 0, 65535), combined(least, -1, 0, 33000, 65535, 65536, greatest)...)
	for k, chain := range validChains() {
		for _, c := range colours {
			if got, err := colour.Convert(chain, c); got != exactConvert(chain, c) || err != api.OK {
				t.Fatalf("Convert of %v along chain %d, of %d spaces, is %v, %v, not %v", c, k, len(chain), got, err, exactConvert(chain, c))
			}
		}
	}
}

// P6.4 and R2: the errors in their order, without any colour.
func TestErrorsOfConvert(t *testing.T) {
	for _, x := range invalidChains() {
		for _, c := range []api.Colour{{}, {1, 2, 3}, {65535, 0, 5}, {least, greatest, -1}} {
			if got, err := colour.Convert(x.chain, c); got != (api.Colour{}) || err != x.err {
				t.Fatalf("Convert along %s is %v, %v", x.name, got, err)
			}
		}
	}
}

// P6.8: to a space and back, the linear channels change by at most 2048.
func TestConvertToTheSameSpace(t *testing.T) {
	steep := generated(257, func(i int) int { return i / 128 * 65535 / 2 })
	spaces := validSpaces()
	for _, s := range validSpaces() {
		s.Curve = [3]api.Curve{steep, {0, 65535}, {0, 0, 0, 65535}}
		spaces = append(spaces, s)
	}
	colours := append(inGamutColours(), combined(0, 1, 2, 100, 600, 32767, 32768, 65000, 65534, 65535)...)
	for k, s := range spaces {
		for _, c := range colours {
			got, err := colour.Convert([]api.Space{s, s}, c)
			if err != api.OK || !isInGamut(got) {
				t.Fatalf("Convert from space %d to itself of %v is %v, %v", k, c, got, err)
			}
			for i := range c {
				before, after := curve.At(s.Curve[i], c[i]), curve.At(s.Curve[i], got[i])
				if max(before-after, after-before) > 2048 {
					t.Fatalf("Convert from space %d to itself of %v changes linear channel %d from %d to %d", k, c, i, before, after)
				}
			}
		}
	}
}

// P6.7: results in numbers.
func TestPixel(t *testing.T) {
	exchange := spaceOf([9]int{0, 4096, 0, 4096, 0, 0, 0, 0, 4096}, [9]int{0, 4096, 0, 4096, 0, 0, 0, 0, 4096})
	half := spaceOf(diagonal(2048, 2048, 2048), diagonal(8192, 8192, 8192))
	for _, x := range []struct {
		chain   []api.Space
		p, want api.Pixel
	}{
		{[]api.Space{exchange, colour.Device()}, api.Pixel{R: 0, G: 255, B: 9, A: 77}, api.Pixel{R: 255, G: 0, B: 9, A: 77}},
		{[]api.Space{exchange, colour.Device()}, api.Pixel{R: 0, G: 255, B: 9, A: 0}, api.Pixel{}},
		{[]api.Space{half, colour.Device()}, api.Pixel{R: 255, G: 100, B: 101, A: 1}, api.Pixel{R: 128, G: 50, B: 51, A: 1}},
		{[]api.Space{colour.Device(), half}, api.Pixel{R: 127, G: 50, B: 10, A: 255}, api.Pixel{R: 254, G: 100, B: 20, A: 255}},
		{[]api.Space{colour.Device(), half}, api.Pixel{R: 136, G: 0, B: 0, A: 255}, api.Pixel{R: 255, G: 9, B: 9, A: 255}},
		{[]api.Space{half}, api.Pixel{R: 1, G: 2, B: 3, A: 4}, api.Pixel{R: 1, G: 2, B: 3, A: 4}},
		{[]api.Space{half}, api.Pixel{R: 1, G: 2, B: 3, A: 0}, api.Pixel{}},
	} {
		if got, err := colour.Pixel(x.chain, x.p); got != x.want || err != api.OK {
			t.Errorf("Pixel(%v) is %v, %v, not %v", x.p, got, err, x.want)
		}
	}
}

// P6.7: pixels of all kinds along all chains.
func TestPixelIsNarrowOfConvertOfWide(t *testing.T) {
	for k, chain := range validChains() {
		for n := range 256 {
			p := api.Pixel{R: uint8(n * 7), G: uint8(n), B: uint8(255 - n), A: uint8(n * 3)}
			want := api.Pixel{}
			if p.A != 0 {
				want = colour.Narrow(exactConvert(chain, api.Colour{257 * int(p.R), 257 * int(p.G), 257 * int(p.B)}), int(p.A))
			}
			if got, err := colour.Pixel(chain, p); got != want || err != api.OK {
				t.Fatalf("Pixel(%v) along chain %d is %v, %v, not %v", p, k, got, err, want)
			}
		}
	}
}

// P6.7: the errors of Convert, for transparent pixels too.
func TestErrorsOfPixel(t *testing.T) {
	for _, x := range invalidChains() {
		for _, alpha := range []uint8{0, 1, 255} {
			p := api.Pixel{R: 10, G: 20, B: 30, A: alpha}
			if got, err := colour.Pixel(x.chain, p); got != (api.Pixel{}) || err != x.err {
				t.Fatalf("Pixel(%v) along %s is %v, %v", p, x.name, got, err)
			}
		}
	}
}
