package tile

import (
	"gouache/api"
	"gouache/pixel"
)

// Halve reduces a square of four tiles, given row by row, to one tile of half the resolution.
func Halve(a, b, c, d api.Tile) api.Tile {
	square := [2][2]api.Tile{{a, b}, {c, d}}
	at := func(x, y int) api.Pixel {
		return square[y/api.TileSize][x/api.TileSize][index(x%api.TileSize, y%api.TileSize)]
	}
	return generate(func(_ int, to api.Point) api.Pixel {
		x, y := 2*to.X, 2*to.Y
		return mean(at(x, y), at(x+1, y), at(x, y+1), at(x+1, y+1))
	})
}

// mean returns the mean of pixels that count equally.
func mean(pixels ...api.Pixel) api.Pixel {
	var m pixel.Mean
	for _, p := range pixels {
		m.Add(p, 1)
	}
	return m.Pixel()
}
