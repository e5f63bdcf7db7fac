package codec

import (
	"slices"

	"gouache/api"
	"gouache/raster"
	"gouache/rect"
	"gouache/tile"
)

// File is a packed raster whose tiles are decoded when they are asked for.
type File struct {
	tiles   []packedTile // in the order of the index
	decoded int          // how many times a tile was to be decoded
}

// Bounds returns the smallest rectangle that contains all tiles.
func (f *File) Bounds() api.Rect {
	var bounds api.Rect
	if f == nil {
		return bounds
	}
	for _, packed := range f.tiles {
		bounds = rect.Union(bounds, rect.Of(packed.pos))
	}
	return bounds
}

// Count returns the number of tiles.
func (f *File) Count() int {
	if f == nil {
		return 0
	}
	return len(f.tiles)
}

// Decoded returns how many times Tile, Read and All have attempted to decode a tile.
func (f *File) Decoded() int {
	if f == nil {
		return 0
	}
	return f.decoded
}

// Tile decodes the tile at a position. Where there is none, it returns the zero tile.
func (f *File) Tile(pos api.TilePos) (api.Tile, api.Errno) {
	if f == nil {
		return api.Tile{}, api.ErrArg
	}
	packed, found := f.find(pos)
	if !found {
		return api.Tile{}, api.OK
	}
	return f.decode(packed)
}

// Read decodes the tiles that r touches, and returns what r contains of them.
func (f *File) Read(r api.Rect) (api.Raster, api.Errno) {
	touched, err := f.collect(func(pos api.TilePos) bool {
		return !rect.Empty(rect.Intersect(rect.Of(pos), r))
	})
	return raster.Crop(touched, r), err
}

// All decodes all tiles.
func (f *File) All() (api.Raster, api.Errno) {
	return f.collect(func(api.TilePos) bool { return true })
}

// Preview returns a tile of the raster reduced to one pixel per tile.
func (f *File) Preview(pos api.TilePos) (api.Tile, api.Errno) {
	if f == nil {
		return api.Tile{}, api.ErrArg
	}
	var t api.Tile
	for i := range t {
		column, row := i%api.TileSize, i/api.TileSize
		packed, _ := f.find(api.TilePos{X: api.TileSize*pos.X + column, Y: api.TileSize*pos.Y + row})
		t[i] = packed.preview
	}
	return tile.Clean(t), api.OK
}

// find returns the tile at a position, if there is one.
func (f *File) find(pos api.TilePos) (packedTile, bool) {
	i := slices.IndexFunc(f.tiles, func(packed packedTile) bool { return packed.pos == pos })
	if i < 0 {
		return packedTile{}, false
	}
	return f.tiles[i], true
}

// collect decodes the tiles at the wanted positions, up to the first error.
func (f *File) collect(wanted func(pos api.TilePos) bool) (api.Raster, api.Errno) {
	if f == nil {
		return api.Raster{}, api.ErrArg
	}
	var r api.Raster
	for _, packed := range f.tiles {
		if !wanted(packed.pos) {
			continue
		}
		t, err := f.decode(packed)
		if err != api.OK {
			return api.Raster{}, err
		}
		r.Tiles = append(r.Tiles, api.TileAt{Pos: packed.pos, Tile: t})
	}
	return r, api.OK
}

// decode decodes a tile, and counts that.
func (f *File) decode(packed packedTile) (api.Tile, api.Errno) {
	f.decoded++
	return packed.decode()
}
