package colour_test

import (
	"slices"
	"testing"

	"gouache/api"
	"gouache/colour"
)

// exactWorst compares a chain and a grid colour by colour.
func exactWorst(chain []api.Space, g api.Grid, some []api.Colour) int {
	worst := 0
	for _, c := range some {
		wanted, got := clampedColour(exactConvert(chain, c), 0, 65535), exactLook(g, c)
		for i := range c {
			worst = max(worst, wanted[i]-got[i], got[i]-wanted[i])
		}
	}
	return worst
}

// bentBy returns a chain that adds an amount to a channel of 32768, not more to other values, and nothing to 0 and 65535.
func bentBy(channel, amount int) []api.Space {
	// 32768 is half a step beyond the middle, where a value less than the identity's is rounded up.
	middle := 32768 + amount
	if amount < 0 {
		middle--
	}
	s := colour.Device()
	s.Curve[channel] = api.Curve{0, middle, 65535}
	return []api.Space{s, colour.Device()}
}

// stepped returns a space whose second curve has steps between the points of every table.
func stepped() api.Space {
	s := colour.Device()
	s.Curve[1] = generated(257, func(i int) int { return i / 100 * 65535 / 2 })
	return s
}

// zigzag returns a chain that a table of n points follows exactly, and no smaller one.
func zigzag(n int) []api.Space {
	s := colour.Device()
	s.Curve[n%3] = generated(n, func(i int) int { return coordinate(i-i%2, n) + i%2*1400/n })
	s.Curve[n%3][n-1] = 65535
	return []api.Space{s, colour.Device()}
}

// greys returns greys at the coordinates of n points.
func greys(n int) []api.Colour {
	colours := make([]api.Colour, n)
	for i := range colours {
		v := coordinate(i, n)
		colours[i] = api.Colour{v, v, v}
	}
	return colours
}

// P6.6: results in numbers: differences in both directions, in each channel, and of colours out of gamut.
func TestWorst(t *testing.T) {
	straight := gridOf(2, func(r, g, b int) api.Colour { return api.Colour{65535 * r, 65535 * g, 65535 * b} })
	flat := gridOf(2, func(_, _, _ int) api.Colour { return api.Colour{100, 200, 300} })
	device := []api.Space{colour.Device()}
	for _, x := range []struct {
		name  string
		chain []api.Space
		g     api.Grid
		some  []api.Colour
		want  int
	}{
		{"no colours", device, flat, nil, 0},
		{"no colours", device, flat, []api.Colour{}, 0},
		{"no difference", device, straight, inGamutColours(), 0},
		{"out of gamut", device, straight, outOfGamutColours(), 0},
		{"out of gamut, two spaces", []api.Space{colour.Device(), colour.Device()}, straight, outOfGamutColours(), 0},
		{"upwards", device, flat, []api.Colour{{90, 190, 299}}, 10},
		{"downwards", device, flat, []api.Colour{{100, 200, 321}}, 21},
		{"both", device, flat, []api.Colour{{110, 170, 329}}, 30},
		{"first colour", device, flat, []api.Colour{{1100, 200, 300}, {100, 200, 300}, {100, 201, 300}}, 1000},
		{"last colour", device, flat, []api.Colour{{100, 200, 300}, {101, 200, 300}, {100, 200, 65535}}, 65235},
		{"far out of gamut", device, flat, []api.Colour{{greatest, 200, 300}, {100, least, 300}}, 65435},
		{"bent", bentBy(0, 300), straight, greys(3), 300},
		{"bent", bentBy(1, -3000), straight, greys(3), 3000},
		{"bent, but at grid points", bentBy(2, 300), straight, greys(2), 0},
	} {
		if got, err := colour.Worst(x.chain, x.g, x.some); got != x.want || err != api.OK {
			t.Errorf("Worst (%s) is %d, %v, not %d", x.name, got, err, x.want)
		}
	}
}

// P6.6: chains of all lengths, grids of several sizes and colours of all kinds.
func TestWorstComparesAllColours(t *testing.T) {
	some := append(scattered(30, 0, 65535), scattered(30, -70000, 140000)...)
	some = append(some, api.Colour{least, 5, greatest}, api.Colour{greatest, least, 30000})
	for k, chain := range validChains() {
		table, _ := colour.Table(chain, 2+k%16)
		for _, g := range []api.Grid{table, unevenGrid(2 + k%7)} {
			for _, part := range [][]api.Colour{some, some[:k%10], some[k:]} {
				if got, err := colour.Worst(chain, g, part); got != exactWorst(chain, g, part) || err != api.OK {
					t.Errorf("Worst of chain %d with a grid of %d points and %d colours is %d, %v, not %d", k, g.N, len(part), got, err, exactWorst(chain, g, part))
				}
			}
		}
	}
}

// P6.6 and R2: the errors of Convert, then that of the grid, then that of the number of colours.
func TestErrorsOfWorst(t *testing.T) {
	chain, g := bentBy(0, 300), unevenGrid(3)
	expect := func(chain []api.Space, g api.Grid, some []api.Colour, want api.Errno) {
		if got, err := colour.Worst(chain, g, some); got != 0 || err != want {
			t.Errorf("Worst of %d spaces, a grid of %d points and %d colours is %d, %v, not %v", len(chain), g.N, len(some), got, err, want)
		}
	}
	tooMany := make([]api.Colour, 4097)
	expect(chain, g, tooMany, api.ErrMany)
	expect(chain, g, make([]api.Colour, 100000), api.ErrMany)
	for _, bad := range invalidGrids() {
		expect(chain, bad, nil, api.ErrArg)
		expect(chain, bad, inGamutColours(), api.ErrArg)
		expect(chain, bad, tooMany, api.ErrArg)
	}
	for _, x := range invalidChains() {
		expect(x.chain, g, nil, x.err)
		expect(x.chain, g, inGamutColours(), x.err)
		expect(x.chain, g, tooMany, x.err)
		expect(x.chain, api.Grid{}, tooMany, x.err)
	}
}

// P6.6: as many colours as there may be, of which the last one differs the most.
func TestWorstOfManyColours(t *testing.T) {
	g := gridOf(2, func(_, _, _ int) api.Colour { return api.Colour{} })
	some := make([]api.Colour, 4096)
	some[4095] = api.Colour{0, 0, 4096}
	if got, err := colour.Worst([]api.Space{colour.Device()}, g, some); got != 4096 || err != api.OK {
		t.Errorf("Worst of 4096 colours is %d, %v", got, err)
	}
}

// P6.6: a difference of 257 is small enough, one of 258 is not, in each channel and in both directions.
func TestSimplifyUpToOneUnit(t *testing.T) {
	for channel := range 3 {
		for amount, n := range map[int]int{0: 2, 1: 2, 256: 2, 257: 2, 258: 3, 259: 3, 5000: 3, -256: 2, -257: 2, -258: 3, -5000: 3} {
			chain := bentBy(channel, amount)
			got, err := colour.Simplify(chain, greys(3))
			want, _ := colour.Table(chain, n)
			if got.N != n || !slices.Equal(got.V, want.V) || err != api.OK {
				t.Errorf("Simplify of a chain that is bent by %d in channel %d gives %d points, %v, not %d", amount, channel, got.N, err, n)
			}
		}
	}
}

// P6.6: only the given colours count; without any, the smallest table is good enough.
func TestSimplifyOfFewColours(t *testing.T) {
	chain := bentBy(1, 5000)
	want, _ := colour.Table(chain, 2)
	for _, some := range [][]api.Colour{nil, {}, greys(2), {{32768, 0, 32768}}, {{least, -5, greatest}}} {
		if got, err := colour.Simplify(chain, some); got.N != 2 || !slices.Equal(got.V, want.V) || err != api.OK {
			t.Errorf("Simplify for %v gives %d points, %v", some, got.N, err)
		}
	}
}

// P6.6 and P6.8: chains for which each number of points from 2 to 17 is the least one, by the tables of all sizes.
func TestSimplifyReturnsTheSmallestTable(t *testing.T) {
	for n := 2; n <= 17; n++ {
		chain, some := zigzag(n), append(greys(n), greys(16*n)...)
		got, err := colour.Simplify(chain, some)
		if got.N != n || err != api.OK {
			t.Fatalf("Simplify gives %d points, %v, not %d", got.N, err, n)
		}
		for smaller := 2; smaller <= n; smaller++ {
			g, _ := colour.Table(chain, smaller)
			if worst := exactWorst(chain, g, some); (worst <= 257) != (smaller == n) {
				t.Errorf("a table of %d points is off by %d, and Simplify returns one of %d points", smaller, worst, n)
			}
			if smaller == n && !slices.Equal(got.V, g.V) {
				t.Errorf("the table of %d points is not that of the chain", n)
			}
		}
	}
}

// P6.6 and P6.8: chains of all kinds, by the tables of all sizes.
func TestSimplifyOfAllChains(t *testing.T) {
	some := append(scattered(15, 0, 65535), api.Colour{-5000, 65535, 30000}, api.Colour{greatest, least, 7})
	for k, chain := range validChains() {
		var want api.Grid
		wanted := api.ErrTable
		for n := 2; n <= 17 && wanted != api.OK; n++ {
			if g, _ := colour.Table(chain, n); exactWorst(chain, g, some[:1+k%17]) <= 257 {
				want, wanted = g, api.OK
			}
		}
		if got, err := colour.Simplify(chain, some[:1+k%17]); got.N != want.N || !slices.Equal(got.V, want.V) || err != wanted {
			t.Errorf("Simplify of chain %d gives %d points, %v, not %d, %v", k, got.N, err, want.N, wanted)
		}
	}
}

// P6.6: a step that lies between the points of every table.
func TestSimplifyWithoutSolution(t *testing.T) {
	some := []api.Colour{{0, 25300, 0}, {0, 25700, 0}}
	for _, chain := range [][]api.Space{{stepped(), colour.Device()}, append(repeated(stepped(), 7), colour.Device())} {
		if got, err := colour.Simplify(chain, some); got.N != 0 || len(got.V) != 0 || err != api.ErrTable {
			t.Errorf("Simplify gives %d points, %v", got.N, err)
		}
	}
}

// P6.6 and R2: the errors of Convert, then that of the number of colours, then that of a chain without a table.
func TestErrorsOfSimplify(t *testing.T) {
	expect := func(chain []api.Space, some []api.Colour, want api.Errno) {
		if got, err := colour.Simplify(chain, some); got.N != 0 || len(got.V) != 0 || err != want {
			t.Errorf("Simplify of %d spaces and %d colours gives %d points, %v, not %v", len(chain), len(some), got.N, err, want)
		}
	}
	tooMany := make([]api.Colour, 4097)
	for k := range tooMany {
		tooMany[k] = api.Colour{0, 16 * k, 0}
	}
	for _, x := range invalidChains() {
		for _, some := range [][]api.Colour{nil, greys(3), tooMany} {
			expect(x.chain, some, x.err)
		}
	}
	expect(bentBy(0, 300), tooMany, api.ErrMany)
	expect([]api.Space{colour.Device()}, make([]api.Colour, 100000), api.ErrMany)
	expect([]api.Space{stepped(), colour.Device()}, tooMany, api.ErrMany)
	expect([]api.Space{stepped(), colour.Device()}, tooMany[:4096], api.ErrTable)
}

// P6.6: as many colours as there may be, of which only the last one needs more than two points.
func TestSimplifyForManyColours(t *testing.T) {
	some := make([]api.Colour, 4096)
	some[4095] = api.Colour{32768, 0, 0}
	if got, err := colour.Simplify(bentBy(0, 5000), some); got.N != 3 || err != api.OK {
		t.Errorf("Simplify for 4096 colours gives %d points, %v", got.N, err)
	}
}
