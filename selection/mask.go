package selection

import (
	"iter"

	"gouache/api"
	"gouache/pixel"
	"gouache/raster"
)

// Union returns the mask with the greater one of both values at each pixel. Of its tiles, only as many as a raster may have are returned, the first ones.
func Union(a, b api.Raster) api.Raster {
	return combine(a, b, func(x, y int) int { return max(x, y) })
}

// Common returns the mask with the lesser one of both values at each pixel.
func Common(a, b api.Raster) api.Raster {
	return combine(a, b, func(x, y int) int { return min(x, y) })
}

// Minus returns the mask with what is left of the value of a at each pixel without the part that b covers.
func Minus(a, b api.Raster) api.Raster {
	return combine(a, b, func(x, y int) int { return pixel.Mul(x, full-y) })
}

// Inverse returns the mask that covers what a does not cover of the pixels of r.
func Inverse(a api.Raster, r api.Rect) (api.Raster, api.Errno) {
	m, err := raster.Image(a, r)
	if err != api.OK {
		return api.Raster{}, err
	}
	for i, p := range m.Pixels {
		m.Pixels[i] = valued(full - int(p.A))
	}
	return raster.Paste(api.Raster{}, m)
}

// combine returns the mask whose value at each pixel is a function of the values of two masks, which has to be 0 where both are 0. It has no more tiles than a raster may have.
func combine(a, b api.Raster, value func(x, y int) int) api.Raster {
	var combined []api.TileAt
	for pos, pair := range pairs(tilesOf(a), tilesOf(b)) {
		at := api.TileAt{Pos: pos}
		for i := range at.Tile {
			at.Tile[i] = valued(value(int(pair[0][i].A), int(pair[1][i].A)))
		}
		if at.Tile != (api.Tile{}) {
			combined = append(combined, at)
		}
		if len(combined) == api.MaxTiles {
			break
		}
	}
	return api.Raster{Tiles: combined}
}

// pairs yields, in order, the positions of the tiles of two lists that are in order, with the tile of each list there, which is zero where the list has none.
func pairs(a, b []api.TileAt) iter.Seq2[api.TilePos, [2]api.Tile] {
	return func(yield func(api.TilePos, [2]api.Tile) bool) {
		left, right := a, b
		for len(left) > 0 || len(right) > 0 {
			pos := firstPosition(left, right)
			var pair [2]api.Tile
			left, pair[0] = takeTile(left, pos)
			right, pair[1] = takeTile(right, pos)
			if !yield(pos, pair) {
				return
			}
		}
	}
}

// firstPosition returns the least position of a tile of two lists that are in order and not both empty.
func firstPosition(a, b []api.TileAt) api.TilePos {
	if len(a) == 0 || len(b) > 0 && compareRows(api.Point(b[0].Pos), api.Point(a[0].Pos)) < 0 {
		return b[0].Pos
	}
	return a[0].Pos
}

// takeTile returns the first tile of a list if it is at a position, and what follows it. Otherwise it returns the list and a zero tile.
func takeTile(tiles []api.TileAt, pos api.TilePos) ([]api.TileAt, api.Tile) {
	if len(tiles) == 0 || tiles[0].Pos != pos {
		return tiles, api.Tile{}
	}
	return tiles[1:], tiles[0].Tile
}

// tilesOf returns the tiles of a raster, and none if it is not valid.
func tilesOf(r api.Raster) []api.TileAt {
	if !raster.Valid(r) {
		return nil
	}
	return r.Tiles
}

// valued returns the pixel of a mask that has a value.
func valued(value int) api.Pixel {
	return api.Pixel{A: uint8(value)}
}
