package colour

import (
	"cmp"
	"slices"

	"gouache/api"
	"gouache/curve"
)

const (
	minGrid    = 2
	maxColours = 4096 // colours for which a grid is compared with a chain
)

// Table returns the grid of n points along each axis whose colours are those that a chain converts their coordinates to.
func Table(chain []api.Space, n int) (api.Grid, api.Errno) {
	if err := check(chain); err != api.OK {
		return api.Grid{}, err
	}
	if !validSide(n) {
		return api.Grid{}, api.ErrArg
	}
	return sample(chain, n), api.OK
}

// Look returns the colour of a grid at the coordinates c, interpolated in the tetrahedron around them.
func Look(g api.Grid, c api.Colour) (api.Colour, api.Errno) {
	if !validGrid(g) {
		return api.Colour{}, api.ErrArg
	}
	return interpolate(g, c), api.OK
}

// Worst returns the greatest difference of a channel between what a chain and what a grid makes of some colours.
func Worst(chain []api.Space, g api.Grid, some []api.Colour) (int, api.Errno) {
	if err := check(chain); err != api.OK {
		return 0, err
	}
	if !validGrid(g) {
		return 0, api.ErrArg
	}
	if len(some) > maxColours {
		return 0, api.ErrMany
	}
	return worst(g, some, convertAll(chain, some)), api.OK
}

// Simplify returns the smallest table of a chain that is off by at most one 8-bit unit for some colours.
func Simplify(chain []api.Space, some []api.Colour) (api.Grid, api.Errno) {
	if err := check(chain); err != api.OK {
		return api.Grid{}, err
	}
	if len(some) > maxColours {
		return api.Grid{}, api.ErrMany
	}
	converted := convertAll(chain, some)
	for n := minGrid; n <= api.MaxGrid; n++ {
		if g := sample(chain, n); worst(g, some, converted) <= unit {
			return g, api.OK
		}
	}
	return api.Grid{}, api.ErrTable
}

// validSide reports whether a grid may have n points along each axis.
func validSide(n int) bool {
	return minGrid <= n && n <= api.MaxGrid
}

// validGrid reports whether a grid has a valid number of points, a colour for each of them, and no colour out of gamut.
func validGrid(g api.Grid) bool {
	outOfGamut := func(c api.Colour) bool { return !inGamut(c) }
	return validSide(g.N) && len(g.V) == g.N*g.N*g.N && !slices.ContainsFunc(g.V, outOfGamut)
}

// sample is Table for a valid chain and a valid n.
func sample(chain []api.Space, n int) api.Grid {
	// The values of the identity are the coordinates of the grid points.
	coordinates := curve.Line(n)
	points := make([]api.Colour, 0, n*n*n)
	for _, red := range coordinates {
		for _, green := range coordinates {
			for _, blue := range coordinates {
				points = append(points, api.Colour{red, green, blue})
			}
		}
	}
	return api.Grid{N: n, V: convertAll(chain, points)}
}

// worst returns the greatest difference of a channel between the wanted colours and those of a valid grid at some coordinates.
func worst(g api.Grid, some, wanted []api.Colour) int {
	greatest := 0
	for k, c := range some {
		for i, v := range interpolate(g, c) {
			difference := v - wanted[k][i]
			greatest = max(greatest, difference, -difference)
		}
	}
	return greatest
}

// interpolate is Look for a valid grid.
func interpolate(g api.Grid, c api.Colour) api.Colour {
	cells, offsets := locate(c, g.N)
	strides := [3]int{g.N * g.N, g.N, 1}
	corner := cells[0]*strides[0] + cells[1]*strides[1] + cells[2]*strides[2]
	axes := byOffset(offsets)
	sum := addWeighted(api.Colour{}, g.V[corner], top-offsets[axes[0]])
	for k, axis := range axes {
		weight := offsets[axis]
		if k+1 < len(axes) {
			weight -= offsets[axes[k+1]]
		}
		corner += strides[axis]
		sum = addWeighted(sum, g.V[corner], weight)
	}
	return mapChannels(sum, func(_, v int) int { return (v + top/2) / top })
}

// locate returns along each axis of n grid points the cell that contains c, and how far c is into that cell, in units of 1/65535 of its side.
func locate(c api.Colour, n int) (cells, offsets [3]int) {
	for axis, v := range clampToGamut(c) {
		// The greatest coordinate belongs to the last cell, since no other one begins there.
		cells[axis] = min(v*(n-1)/top, n-2)
		offsets[axis] = v*(n-1) - top*cells[axis]
	}
	return cells, offsets
}

// byOffset returns the axes in the order of decreasing offsets.
func byOffset(offsets [3]int) [3]int {
	axes := [3]int{0, 1, 2}
	slices.SortStableFunc(axes[:], func(a, b int) int { return cmp.Compare(offsets[b], offsets[a]) })
	return axes
}

// addWeighted adds a colour to a sum of colours, as often as its weight says.
func addWeighted(sum, c api.Colour, weight int) api.Colour {
	return mapChannels(sum, func(i, v int) int { return v + c[i]*weight })
}
