package colour_test

import (
	"slices"
	"testing"

	"gouache/api"
	"gouache/colour"
)

// coordinate returns the i-th coordinate of n grid points.
func coordinate(i, n int) int {
	return roundHalfUp(fraction(65535*i, n-1))
}

// gridPoints returns the coordinates of all points of a grid, the last channel varying fastest.
func gridPoints(n int) []api.Colour {
	coordinates := make([]int, n)
	for i := range coordinates {
		coordinates[i] = coordinate(i, n)
	}
	return combined(coordinates...)
}

// gridOf returns a grid whose colours are a function of the indices of its points.
func gridOf(n int, value func(r, g, b int) api.Colour) api.Grid {
	grid := api.Grid{N: n}
	for r := range n {
		for g := range n {
			for b := range n {
				grid.V = append(grid.V, value(r, g, b))
			}
		}
	}
	return grid
}

// unevenGrid returns a grid of colours that differ widely, with the greatest and the least ones among them.
func unevenGrid(n int) api.Grid {
	grid := api.Grid{N: n, V: scattered(n*n*n, 0, 65535)}
	grid.V[1], grid.V[n*n] = api.Colour{65535, 0, 65535}, api.Colour{0, 65535, 0}
	return grid
}

// cellOf returns the cell of n grid points that contains a channel, the last one if it is at the end, and the offset there.
func cellOf(v, n int) (cell, offset int) {
	for cell < n-2 && v*(n-1) >= 65535*(cell+1) {
		cell++
	}
	return cell, v*(n-1) - 65535*cell
}

// cornerWeight returns the weight of a corner of a cell: of those offsets that lie along the axes that lead to it, the least one must be greater than all others.
func cornerWeight(steps, offsets [3]int) int {
	with, without := 65535, 0
	for i, step := range steps {
		if step == 1 {
			with = min(with, offsets[i])
		} else {
			without = max(without, offsets[i])
		}
	}
	return max(with-without, 0)
}

// exactLook interpolates in a valid grid with the weights of all eight corners of the cell.
func exactLook(g api.Grid, c api.Colour) api.Colour {
	var cells, offsets, sum [3]int
	for i, v := range clampedColour(c, 0, 65535) {
		cells[i], offsets[i] = cellOf(v, g.N)
	}
	for _, steps := range combined(0, 1) {
		weight := cornerWeight(steps, offsets)
		corner := g.V[((cells[0]+steps[0])*g.N+cells[1]+steps[1])*g.N+cells[2]+steps[2]]
		for i := range sum {
			sum[i] += weight * corner[i]
		}
	}
	for i := range sum {
		sum[i] = roundHalfUp(fraction(sum[i], 65535))
	}
	return sum
}

// lookedUp returns Look of a valid grid.
func lookedUp(t *testing.T, g api.Grid, c api.Colour) api.Colour {
	t.Helper()
	got, err := colour.Look(g, c)
	if err != api.OK {
		t.Fatalf("Look of %v in a grid of %d points fails with %v", c, g.N, err)
	}
	return got
}

// sidesOutOfRange returns numbers of points that no grid has along its axes.
func sidesOutOfRange() []int {
	return []int{0, 1, 18, 19, 34, -1, -2, -17, 257, 1 << 21, 1 << 22, 1 << 32, 1<<32 + 2, -1 << 22, -1<<32 + 17, least, least + 2, greatest}
}

// invalidGrids returns grids with a wrong number of points, with too few or too many colours, and with a colour out of gamut.
func invalidGrids() []api.Grid {
	grids := []api.Grid{{}, {N: 1, V: make([]api.Colour, 1)}, {N: 18, V: make([]api.Colour, 18*18*18)}}
	for _, n := range sidesOutOfRange() {
		grids = append(grids, api.Grid{N: n}, api.Grid{N: n, V: make([]api.Colour, 8)}, api.Grid{N: n, V: make([]api.Colour, 17*17*17)})
	}
	for _, n := range []int{2, 3, 16, 17} {
		for _, count := range []int{0, 1, n, n * n, n*n*n - 1, n*n*n + 1, 2 * n * n * n} {
			grids = append(grids, api.Grid{N: n, V: make([]api.Colour, count)})
		}
		for i := range 3 {
			for k, bad := range []int{-1, 65536, least, greatest, 1 << 32} {
				g := unevenGrid(n)
				g.V[[]int{0, len(g.V) - 1, len(g.V) / 2, 1, n}[k]][i] = bad
				grids = append(grids, g)
			}
		}
	}
	return grids
}

// P6.5: a small table in numbers, with the order of its colours and the rounding of its coordinates.
func TestTable(t *testing.T) {
	exchange := [9]int{0, 4096, 0, 4096, 0, 0, 0, 0, 4096}
	got, err := colour.Table([]api.Space{colour.Device(), spaceOf(exchange, exchange)}, 2)
	want := []api.Colour{{0, 0, 0}, {0, 0, 65535}, {65535, 0, 0}, {65535, 0, 65535}, {0, 65535, 0}, {0, 65535, 65535}, {65535, 65535, 0}, {65535, 65535, 65535}}
	if got.N != 2 || !slices.Equal(got.V, want) || err != api.OK {
		t.Errorf("the table is %v, %v", got, err)
	}
	got, err = colour.Table([]api.Space{colour.Device()}, 3)
	if got.N != 3 || len(got.V) != 27 || got.V[13] != (api.Colour{32768, 32768, 32768}) || got.V[5] != (api.Colour{0, 32768, 65535}) || err != api.OK {
		t.Errorf("the table is %v, %v", got, err)
	}
}

// P6.5: tables of all sizes, of several chains.
func TestTableIsConvertAtTheGridPoints(t *testing.T) {
	chains := validChains()
	for n := 2; n <= 17; n++ {
		for k := n % 3; k < len(chains); k += 3 + n/3 {
			want := gridPoints(n)
			for i, c := range want {
				want[i] = exactConvert(chains[k], c)
			}
			if got, err := colour.Table(chains[k], n); got.N != n || !slices.Equal(got.V, want) || err != api.OK {
				t.Errorf("Table of chain %d with %d points is not Convert at its points, or fails with %v", k, n, err)
			}
		}
	}
}

// P6.5 and R2: the errors of Convert come before that of the number of points, and there is no grid with an error.
func TestErrorsOfTable(t *testing.T) {
	expect := func(chain []api.Space, n int, want api.Errno) {
		if got, err := colour.Table(chain, n); got.N != 0 || len(got.V) != 0 || err != want {
			t.Errorf("Table of %d spaces with %d points is %v, %v, not %v", len(chain), n, got, err, want)
		}
	}
	for _, n := range sidesOutOfRange() {
		for _, chain := range validChains()[:8] {
			expect(chain, n, api.ErrArg)
		}
	}
	for _, x := range invalidChains() {
		for _, n := range append(sidesOutOfRange(), 2, 17) {
			expect(x.chain, n, x.err)
		}
	}
}

// P6.5: the example of the chapter.
func TestLookInAnIdentity(t *testing.T) {
	g := gridOf(2, func(r, g, b int) api.Colour { return api.Colour{65535 * r, 65535 * g, 65535 * b} })
	for _, c := range append(inGamutColours(), api.Colour{1000, 2000, 3000}) {
		if got := lookedUp(t, g, c); got != c {
			t.Errorf("Look(%v) is %v", c, got)
		}
	}
}

// P6.5: the way through the corners in each order of the offsets, in numbers, and with equal offsets.
func TestLookVisitsFourCorners(t *testing.T) {
	for _, x := range []struct {
		c       api.Colour
		weights [8]int // of the corners in the order of the colours of a grid
	}{
		{api.Colour{30000, 20000, 5000}, [8]int{0: 35535, 4: 10000, 6: 15000, 7: 5000}},
		{api.Colour{30000, 5000, 20000}, [8]int{0: 35535, 4: 10000, 5: 15000, 7: 5000}},
		{api.Colour{20000, 30000, 5000}, [8]int{0: 35535, 2: 10000, 6: 15000, 7: 5000}},
		{api.Colour{5000, 30000, 20000}, [8]int{0: 35535, 2: 10000, 3: 15000, 7: 5000}},
		{api.Colour{20000, 5000, 30000}, [8]int{0: 35535, 1: 10000, 5: 15000, 7: 5000}},
		{api.Colour{5000, 20000, 30000}, [8]int{0: 35535, 1: 10000, 3: 15000, 7: 5000}},
		{api.Colour{9000, 9000, 5000}, [8]int{0: 56535, 6: 4000, 7: 5000}},
		{api.Colour{9000, 5000, 9000}, [8]int{0: 56535, 5: 4000, 7: 5000}},
		{api.Colour{5000, 9000, 9000}, [8]int{0: 56535, 3: 4000, 7: 5000}},
		{api.Colour{9000, 5000, 5000}, [8]int{0: 56535, 4: 4000, 7: 5000}},
		{api.Colour{5000, 9000, 5000}, [8]int{0: 56535, 2: 4000, 7: 5000}},
		{api.Colour{5000, 5000, 9000}, [8]int{0: 56535, 1: 4000, 7: 5000}},
		{api.Colour{7, 7, 7}, [8]int{0: 65528, 7: 7}},
		{api.Colour{0, 0, 0}, [8]int{0: 65535}},
		{api.Colour{65535, 0, 0}, [8]int{4: 65535}},
		{api.Colour{65535, 0, 65535}, [8]int{5: 65535}},
		{api.Colour{65535, 65535, 65535}, [8]int{7: 65535}},
		{api.Colour{70000, -1, 1}, [8]int{4: 65534, 5: 1}},
		{api.Colour{greatest, least, 65536}, [8]int{5: 65535}},
		{api.Colour{least, 1 << 40, -1 << 40}, [8]int{2: 65535}},
	} {
		for corner, weight := range x.weights {
			g := api.Grid{N: 2, V: make([]api.Colour, 8)}
			g.V[corner] = api.Colour{65535, 1, 2}
			// The second channel is rounded up from a weight of 32768 on, and the third one from 16384 on.
			want := api.Colour{weight, (weight + 32767) / 65535, (2*weight + 32767) / 65535}
			if got := lookedUp(t, g, x.c); got != want {
				t.Errorf("Look(%v) is %v in a grid that is black but at corner %d, not %v", x.c, got, corner, want)
			}
		}
	}
}

// P6.5: sums around a half are rounded to the nearest integer.
func TestLookRounds(t *testing.T) {
	g := api.Grid{N: 2, V: make([]api.Colour, 8)}
	g.V[4] = api.Colour{1, 65535, 3}
	for _, x := range []struct {
		v    int
		want api.Colour
	}{
		{10922, api.Colour{0, 10922, 0}}, {10923, api.Colour{0, 10923, 1}}, {32767, api.Colour{0, 32767, 1}}, {32768, api.Colour{1, 32768, 2}}, {54612, api.Colour{1, 54612, 2}}, {54613, api.Colour{1, 54613, 3}},
	} {
		if got := lookedUp(t, g, api.Colour{x.v, 0, 0}); got != x.want {
			t.Errorf("Look(%d 0 0) is %v, not %v", x.v, got, x.want)
		}
	}
}

// P6.5 and P6.8: grids of all sizes, at channels around all cell borders and elsewhere, against the weights of the corners; the result is between the corners.
func TestLookIsExactlyRounded(t *testing.T) {
	for n := 2; n <= 17; n++ {
		g := unevenGrid(n)
		colours := append(allColours(), scattered(500, 0, 65535)...)
		for i, c := range gridPoints(n) {
			colours = append(colours, api.Colour{c[0] + i%3 - 1, c[1] + i%5 - 2, c[2] + i%7/3}, c)
		}
		// A great grid takes long to check, so that it is not looked up everywhere.
		for i := 0; i < len(colours); i += 1 + 2*(n*n/60) {
			c := colours[i]
			if got, want := lookedUp(t, g, c), exactLook(g, c); got != want || !isInGamut(got) {
				t.Fatalf("Look of %v in a grid of %d points is %v, not %v", c, n, got, want)
			}
		}
	}
}

// P6.8: at the coordinates of a grid point that are exact, the result is its colour.
func TestLookAtGridPoints(t *testing.T) {
	for n := 2; n <= 17; n++ {
		g := unevenGrid(n)
		for k, c := range gridPoints(n) {
			exact := true
			for i, index := range [3]int{k / (n * n), k / n % n, k % n} {
				exact = exact && c[i]*(n-1) == 65535*index
			}
			if exact && lookedUp(t, g, c) != g.V[k] {
				t.Errorf("Look of %v in a grid of %d points is not %v", c, n, g.V[k])
			}
		}
	}
}

// P6.8: elsewhere, each channel is between those of the corners of the cell.
func TestLookIsBetweenTheCorners(t *testing.T) {
	for n := 2; n <= 17; n++ {
		g := unevenGrid(n)
		for _, c := range scattered(500, -100, 65635) {
			var corners []api.Colour
			for _, steps := range combined(0, 1) {
				k := 0
				for i, v := range clampedColour(c, 0, 65535) {
					cell, _ := cellOf(v, n)
					k = k*n + cell + steps[i]
				}
				corners = append(corners, g.V[k])
			}
			for i, v := range lookedUp(t, g, c) {
				inChannel := func(a, b api.Colour) int { return a[i] - b[i] }
				if v < slices.MinFunc(corners, inChannel)[i] || v > slices.MaxFunc(corners, inChannel)[i] {
					t.Errorf("Look of %v in a grid of %d points has %d in channel %d, but the corners are %v", c, n, v, i, corners)
				}
			}
		}
	}
}

// P6.5: nothing can be looked up in an invalid grid.
func TestLookInInvalidGrids(t *testing.T) {
	for _, g := range invalidGrids() {
		for _, c := range []api.Colour{{}, {1, 2, 3}, {65535, 65535, 65535}, {least, greatest, -1}} {
			if got, err := colour.Look(g, c); got != (api.Colour{}) || err != api.ErrArg {
				t.Fatalf("Look of %v in a grid with N = %d and %d colours is %v, %v", c, g.N, len(g.V), got, err)
			}
		}
	}
}

// P6.5: a grid of 2 and one of 17 points are valid, with channels at both ends of the gamut.
func TestLookInValidGrids(t *testing.T) {
	for n := 2; n <= 17; n++ {
		for _, v := range []int{0, 1, 65534, 65535} {
			flat := gridOf(n, func(_, _, _ int) api.Colour { return api.Colour{v, 65535 - v, v} })
			for _, c := range combined(-1, 0, 21845, 40000, 65535, 65536) {
				if got := lookedUp(t, flat, c); got != (api.Colour{v, 65535 - v, v}) {
					t.Errorf("Look of %v in a flat grid of %d points is %v", c, n, got)
				}
			}
		}
	}
}
