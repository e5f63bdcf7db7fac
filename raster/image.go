package raster

import (
	"iter"

	"gouache/api"
	"gouache/pixel"
	"gouache/rect"
)

// Bounds returns the smallest rectangle that contains all pixels of r that are to be seen.
func Bounds(r api.Raster) api.Rect {
	var bounds api.Rect
	for _, at := range validTiles(r) {
		for i, p := range places(at.Pos, rect.Of(at.Pos)) {
			if at.Tile[i].A != 0 {
				bounds = rect.Union(bounds, api.Rect{X0: p.X, Y0: p.Y, X1: p.X + 1, Y1: p.Y + 1})
			}
		}
	}
	return bounds
}

// Crop returns r without the pixels outside of c, which may be any rectangle.
func Crop(r api.Raster, c api.Rect) api.Raster {
	var cropped []api.TileAt
	for _, at := range validTiles(r) {
		kept := api.TileAt{Pos: at.Pos}
		for i := range places(at.Pos, c) {
			kept.Tile[i] = at.Tile[i]
		}
		if kept.Tile != (api.Tile{}) {
			cropped = append(cropped, kept)
		}
	}
	return api.Raster{Tiles: cropped}
}

// Image returns the pixels of r in c.
func Image(r api.Raster, c api.Rect) (api.Image, api.Errno) {
	if err := check(c); err != api.OK {
		return api.Image{}, err
	}
	pixels := make([]api.Pixel, rect.Area(c))
	for _, at := range validTiles(r) {
		for i, p := range places(at.Pos, c) {
			pixels[indexIn(c, p)] = at.Tile[i]
		}
	}
	return api.Image{Rect: c, Pixels: pixels}, api.OK
}

// Paste returns r with the pixels in the rectangle of m replaced by those of m, be they transparent or not.
func Paste(r api.Raster, m api.Image) (api.Raster, api.Errno) {
	if len(m.Pixels) != rect.Area(m.Rect) {
		return api.Raster{}, api.ErrArg
	}
	if err := check(m.Rect); err != api.OK {
		return api.Raster{}, err
	}
	tiles := validTiles(r)
	var changed []api.TileAt
	for pos := range rect.Tiles(m.Rect) {
		t := tileAt(tiles, pos)
		for i, p := range places(pos, m.Rect) {
			t[i] = pixel.Clean(m.Pixels[indexIn(m.Rect, p)])
		}
		changed = append(changed, api.TileAt{Pos: pos, Tile: t})
	}
	return replace(tiles, changed...)
}

// check returns the error, if there is one, of a rectangle whose pixels are requested or given.
func check(c api.Rect) api.Errno {
	switch {
	case !rect.Valid(c):
		return api.ErrArg
	case c.X1-c.X0 > api.MaxSide || c.Y1-c.Y0 > api.MaxSide:
		return api.ErrBudget
	}
	return api.OK
}

// indexIn returns the index of the pixel at p, which c contains, in an image of c.
func indexIn(c api.Rect, p api.Point) int {
	return (p.Y-c.Y0)*(c.X1-c.X0) + p.X - c.X0
}

// places yields the pixels of the tile at pos that c contains: their indices in the tile, and their coordinates.
func places(pos api.TilePos, c api.Rect) iter.Seq2[int, api.Point] {
	covered := rect.Of(pos)
	part := rect.Intersect(covered, c)
	return func(yield func(int, api.Point) bool) {
		for y := part.Y0; y < part.Y1; y++ {
			for x := part.X0; x < part.X1; x++ {
				if !yield(indexIn(covered, api.Point{X: x, Y: y}), api.Point{X: x, Y: y}) {
					return
				}
			}
		}
	}
}
