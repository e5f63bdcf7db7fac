package predict_test

import (
	"math"
	"slices"

	"gouache/api"
)

const (
	least    = math.MinInt
	greatest = math.MaxInt
)

// of returns the pixel with these channels.
func of(r, g, b, a uint8) api.Pixel {
	return api.Pixel{R: r, G: g, B: b, A: a}
}

// reduced returns an integer modulo 256.
func reduced(n int) int {
	return ((n % 256) + 256) % 256
}

// swapped returns the transformed colour, as P10.1 says it, with integers that are reduced after each step.
func swapped(r, g, b int) (y, u, v int) {
	u = reduced(r - b)
	m := reduced(b + u/2)
	v = reduced(g - m)
	y = reduced(m + v/2)
	return y, u, v
}

// returned returns the colour that is transformed to y, u and v, as P10.1 says it.
func returned(y, u, v int) (r, g, b int) {
	m := reduced(y - v/2)
	g = reduced(v + m)
	b = reduced(m - u/2)
	r = reduced(b + u)
	return r, g, b
}

// planes are the values y, u, v and A of the pixels of a tile.
type planes [4][64]int

// planesOf returns the planes of a tile.
func planesOf(t api.Tile) planes {
	var all planes
	for i, p := range t {
		all[0][i], all[1][i], all[2][i] = swapped(int(p.R), int(p.G), int(p.B))
		all[3][i] = int(p.A)
	}
	return all
}

// tile returns the tile with these planes.
func (all planes) tile() api.Tile {
	var t api.Tile
	for i := range t {
		r, g, b := returned(all[0][i], all[1][i], all[2][i])
		t[i] = of(uint8(r), uint8(g), uint8(b), uint8(all[3][i]))
	}
	return t
}

// predictions returns the predictions of the six predictors: the table of P10.2, with the median of three for MED, which is the same.
func predictions(l, u, c int) [6]int {
	slope := l + u - c
	// A stable sort by the distance keeps the order L, U, C of neighbours that are equally near.
	near := []int{l, u, c}
	slices.SortStableFunc(near, func(a, b int) int { return distance(a, slope) - distance(b, slope) })
	middle := []int{l, u, slope}
	slices.Sort(middle)
	return [6]int{0, l, u, (l + u) >> 1, near[0], middle[1]}
}

// distance returns the absolute difference of two integers.
func distance(a, b int) int {
	if a < b {
		return b - a
	}
	return a - b
}

// neighboursAt returns the neighbours L, U and C of a value of a plane, as the section Words says it.
func neighboursAt(plane [64]int, x, y int) (l, u, c int) {
	if x > 0 {
		l = plane[8*y+x-1]
	}
	if y > 0 {
		u = plane[8*(y-1)+x]
	}
	if x > 0 && y > 0 {
		c = plane[8*(y-1)+x-1]
	}
	if x == 0 && y > 0 {
		l, c = u, u
	}
	if y == 0 && x > 0 {
		u, c = l, l
	}
	return l, u, c
}

// forward returns the residuals of a tile, as P10.3 says it.
func forward(t api.Tile, predictor int) string {
	var residuals []byte
	for _, plane := range planesOf(t) {
		for i, value := range plane {
			l, u, c := neighboursAt(plane, i%8, i/8)
			residuals = append(residuals, byte(reduced(value-predictions(l, u, c)[predictor])))
		}
	}
	return string(residuals)
}

// inverse returns the tile with these 256 residuals, whose values are found one after another.
func inverse(residuals string, predictor int) api.Tile {
	var all planes
	for n := range len(residuals) {
		plane, i := n/64, n%64
		l, u, c := neighboursAt(all[plane], i%8, i/8)
		all[plane][i] = reduced(int(residuals[n]) + predictions(l, u, c)[predictor])
	}
	return all.tile()
}

// cost returns the cost of residuals, as P10.5 says it: of each byte, its distance from the nearer one of 0 and 256.
func cost(residuals string) int {
	sum := 0
	for i := range len(residuals) {
		r := int(residuals[i])
		if r > 128 {
			r = 256 - r
		}
		sum += r
	}
	return sum
}

// costs returns what the residuals of a tile cost with each predictor.
func costs(t api.Tile) [6]int {
	var all [6]int
	for predictor := range all {
		all[predictor] = cost(forward(t, predictor))
	}
	return all
}

// scatter returns a function that returns integers from 0 to n - 1 without a visible order, others for each seed.
func scatter(seed uint64) func(n int) int {
	state := seed
	return func(n int) int {
		state = state*6364136223846793005 + 1442695040888963407
		return int(state >> 33 % uint64(n))
	}
}

// scatteredBytes returns a string of n bytes without a visible order.
func scatteredBytes(seed uint64, n int) string {
	next := scatter(seed)
	s := make([]byte, n)
	for i := range s {
		s[i] = byte(next(256))
	}
	return string(s)
}

// filled returns a tile of equal pixels.
func filled(p api.Pixel) api.Tile {
	var t api.Tile
	for i := range t {
		t[i] = p
	}
	return t
}

// shaped returns the tile whose four planes all have the value of a function of the column and the row, modulo 256.
func shaped(value func(x, y int) int) api.Tile {
	var all planes
	for i := range 64 {
		for plane := range all {
			all[plane][i] = reduced(value(i%8, i/8))
		}
	}
	return all.tile()
}

// rough returns a tile that continues its slopes, up to a noise; its planes have nothing to do with each other.
func rough(seed uint64) api.Tile {
	next := scatter(seed)
	var all planes
	for plane := range all {
		right, down, start, noise := next(31)-15, next(31)-15, next(256), 1+next(1+next(64))
		for i := range all[plane] {
			all[plane][i] = reduced(start + right*(i%8) + down*(i/8) + next(noise))
		}
	}
	return all.tile()
}

// noisy returns a tile whose planes are those of one shape, with a noise in a few places only, so that predictors often cost the same.
func noisy(seed uint64) api.Tile {
	next := scatter(seed)
	right, down, edge := next(5)-2, next(5)-2, next(100)*next(2)
	slant, places := next(3)-1, next(4)
	var all planes
	for i := range 64 {
		x, y := i%8, i/8
		value := right*x + down*y
		if x+slant*y > 4 {
			value += edge
		}
		for plane := range all {
			all[plane][i] = reduced(value)
		}
	}
	for range places {
		all[next(4)][next(64)] = next(256)
	}
	return all.tile()
}

// random returns a tile whose pixels differ widely; every fourth one of them is transparent, with a colour, and every fourth one opaque.
func random(seed uint64) api.Tile {
	next := scatter(seed)
	var t api.Tile
	for i := range t {
		t[i] = of(uint8(next(256)), uint8(next(256)), uint8(next(256)), uint8(next(256)))
		switch next(4) {
		case 0:
			t[i].A = 0
		case 1:
			t[i].A = 255
		}
	}
	return t
}

// someTiles returns tiles of all kinds: solid, shaped, rough and random ones.
func someTiles() []api.Tile {
	tiles := []api.Tile{{}}
	for _, p := range []api.Pixel{of(255, 255, 255, 255), of(10, 10, 10, 255), of(1, 2, 3, 0), of(0, 0, 1, 0), of(255, 0, 254, 1), of(7, 128, 127, 128)} {
		tiles = append(tiles, filled(p))
	}
	for _, value := range []func(x, y int) int{
		func(x, y int) int { return 37 * x },
		func(x, y int) int { return 37 * y },
		func(x, y int) int { return 3*x - 5*y },
		func(x, y int) int { return 255 * (x + y) },
		func(x, y int) int { return 128 * (x ^ y) },
		func(x, y int) int { return 8*y + x },
	} {
		tiles = append(tiles, shaped(value))
	}
	for seed := range uint64(20) {
		tiles = append(tiles, rough(seed), random(seed))
	}
	return tiles
}
