package rect

import (
	"iter"

	"gouache/api"
)

// Of returns the rectangle of the tile at position t.
func Of(t api.TilePos) api.Rect {
	x, y := api.TileSize*t.X, api.TileSize*t.Y
	return api.Rect{X0: x, Y0: y, X1: x + api.TileSize, Y1: y + api.TileSize}
}

// At returns the position of the tile that covers p.
func At(p api.Point) api.TilePos {
	return api.TilePos{X: Floor(p.X, api.TileSize), Y: Floor(p.Y, api.TileSize)}
}

// Tiles enumerates the positions of the tiles that cover a point of r, row by row.
func Tiles(r api.Rect) iter.Seq[api.TilePos] {
	return func(yield func(api.TilePos) bool) {
		if Empty(r) {
			return
		}
		// The last point is asked for, because the tile behind it may lie outside of the integers.
		first, last := At(api.Point{X: r.X0, Y: r.Y0}), At(api.Point{X: r.X1 - 1, Y: r.Y1 - 1})
		rows, columns := last.Y-first.Y+1, last.X-first.X+1
		for row := range rows {
			for column := range columns {
				if !yield(api.TilePos{X: first.X + column, Y: first.Y + row}) {
					return
				}
			}
		}
	}
}
