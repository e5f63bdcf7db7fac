package raster

import (
	"slices"

	"gouache/api"
	"gouache/digest"
	"gouache/octet"
	"gouache/tile"
)

// Equal reports whether a and b have the same pixels.
func Equal(a, b api.Raster) bool {
	return slices.Equal(validTiles(a), validTiles(b))
}

// Same reports whether a and b have the same rectangle and the same pixels.
func Same(a, b api.Image) bool {
	return a.Rect == b.Rect && slices.Equal(a.Pixels, b.Pixels)
}

// Changed returns the positions at which the tiles of a and b differ, in order.
func Changed(a, b api.Raster) []api.TilePos {
	before, after := validTiles(a), validTiles(b)
	var positions []api.TilePos
	for _, at := range slices.Concat(before, after) {
		if tileAt(before, at.Pos) != tileAt(after, at.Pos) {
			positions = append(positions, at.Pos)
		}
	}
	slices.SortFunc(positions, comparePositions)
	return slices.Compact(positions)
}

// Key returns the digest of r. Rasters with the same pixels have the same key.
func Key(r api.Raster) api.Digest {
	var parts []string
	for _, at := range validTiles(r) {
		parts = append(parts, positionBytes(at.Pos), string(tile.Key(at.Tile)))
	}
	return digest.Join(parts...)
}

// positionBytes returns the encoding of a valid position.
func positionBytes(pos api.TilePos) string {
	const size = 4
	return octet.Put(pos.X+api.MaxCoord, size) + octet.Put(pos.Y+api.MaxCoord, size)
}
