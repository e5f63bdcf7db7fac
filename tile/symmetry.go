package tile

import "gouache/api"

// last is the greatest column and row of a tile.
const last = api.TileSize - 1

// Flip reflects t horizontally.
func Flip(t api.Tile) api.Tile {
	return rearrange(t, func(to api.Point) api.Point { return api.Point{X: last - to.X, Y: to.Y} })
}

// Turn rotates t clockwise by a quarter turn.
func Turn(t api.Tile) api.Tile {
	// The rotation moves (x, y) to (last - y, x); this is its inverse.
	return rearrange(t, func(to api.Point) api.Point { return api.Point{X: to.Y, Y: last - to.X} })
}

// rearrange returns the tile that has at each place the pixel of t at its origin.
func rearrange(t api.Tile, origin func(to api.Point) api.Point) api.Tile {
	return generate(func(_ int, to api.Point) api.Pixel {
		from := origin(to)
		return t[index(from.X, from.Y)]
	})
}
