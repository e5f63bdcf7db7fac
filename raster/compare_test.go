package raster_test

import (
	"crypto/sha256"
	"encoding/binary"
	"slices"
	"testing"

	"gouache/api"
	"gouache/digest"
	"gouache/raster"
)

// differing returns the positions at which the tiles of two rasters differ, in order.
func differing(a, b api.Raster) []api.TilePos {
	tiles := map[api.TilePos][2]api.Tile{}
	for side, r := range []api.Raster{a, b} {
		for _, x := range r.Tiles {
			both := tiles[x.Pos]
			both[side] = x.Tile
			tiles[x.Pos] = both
		}
	}
	var different []api.TileAt
	for pos, both := range tiles {
		if both[0] != both[1] {
			different = append(different, api.TileAt{Pos: pos})
		}
	}
	slices.SortFunc(different, inOrder)
	var positions []api.TilePos
	for _, x := range different {
		positions = append(positions, x.Pos)
	}
	return positions
}

// someRasters returns valid rasters, no two of them equal. Some have tiles that others lack, before, between or behind theirs, and some differ in one channel of one pixel.
func someRasters() []api.Raster {
	a, b, c := lit(0, of(1, 2, 3, 4)), lit(63, of(1, 2, 3, 4)), different()
	rasters := []api.Raster{
		{}, many(2), many(1023), many(1024),
		rasterOf(at(0, 0, a)), rasterOf(at(0, 0, b)), rasterOf(at(1, 0, a)), rasterOf(at(0, 1, a)), rasterOf(at(-1, 0, a)), rasterOf(at(0, -1, a)),
		rasterOf(at(0, 0, a), at(1, 0, a)), rasterOf(at(0, 0, a), at(0, 1, a)), rasterOf(at(0, 0, b), at(1, 0, a)), rasterOf(at(0, 0, a), at(1, 0, b)),
		rasterOf(at(-1, -1, c), at(0, 0, a), at(5, 5, b)), rasterOf(at(-1, -1, c), at(5, 5, b)), rasterOf(at(0, 0, a), at(5, 5, b)), rasterOf(at(-1, -1, c), at(0, 0, a)),
		rasterOf(at(5, -1, c), at(0, 0, b), at(-5, 5, a)), rasterOf(at(0, 0, c)),
		rasterOf(at(-8192, -8192, c), at(8191, 8191, c)), rasterOf(at(8191, -8192, c), at(-8192, 8191, c)),
	}
	for _, i := range []int{0, 20, 63} {
		for _, change := range []api.Pixel{of(1, 0, 0, 0), of(0, 1, 0, 0), of(0, 0, 1, 0), of(0, 0, 0, 1)} {
			tile := c
			tile[i] = of(tile[i].R^change.R, tile[i].G^change.G, tile[i].B^change.B, tile[i].A^change.A)
			rasters = append(rasters, rasterOf(at(0, 0, tile)))
		}
	}
	for seed := range 8 {
		rasters = append(rasters, someCanvas(seed, 100+30*seed).raster())
	}
	return rasters
}

// copied returns a raster of the same tiles, in other memory.
func copied(r api.Raster) api.Raster {
	return api.Raster{Tiles: slices.Clone(r.Tiles)}
}

// P8.5, P8.7: all pairs of some rasters; two rasters are equal if nothing has changed between them.
func TestEqualAndChanged(t *testing.T) {
	rasters := someRasters()
	for i, a := range rasters {
		for j, b := range rasters {
			if got := raster.Equal(a, copied(b)); got != (i == j) {
				t.Errorf("Equal of rasters %d and %d is %v", i, j, got)
			}
			if got := raster.Changed(a, copied(b)); !slices.Equal(got, differing(a, b)) || (len(got) == 0) != (i == j) {
				t.Errorf("Changed of rasters %d and %d is %v, not %v", i, j, got, differing(a, b))
			}
		}
	}
}

// P8.5: tiles that one of the rasters lacks, and tiles of both.
func TestChangedInOrder(t *testing.T) {
	a, b := dot(), different()
	left := rasterOf(at(9, -2, a), at(-1, 0, a), at(0, 0, a), at(3, 0, a), at(-4, 7, a))
	right := rasterOf(at(0, 0, b), at(1, 0, b), at(3, 0, a), at(-9, 7, a), at(0, 8, b))
	want := []api.TilePos{{X: 9, Y: -2}, {X: -1, Y: 0}, {X: 0, Y: 0}, {X: 1, Y: 0}, {X: -9, Y: 7}, {X: -4, Y: 7}, {X: 0, Y: 8}}
	if got := raster.Changed(left, right); !slices.Equal(got, want) {
		t.Errorf("Changed is %v, not %v", got, want)
	}
	if got := raster.Changed(right, left); !slices.Equal(got, want) {
		t.Errorf("Changed is %v, not %v", got, want)
	}
	if got := raster.Changed(many(1024), api.Raster{}); len(got) != 1024 {
		t.Errorf("%d tiles of 1024 have changed", len(got))
	}
}

// P8.5: images are the same if their rectangles are, field by field, and their pixels, valid or not.
func TestSame(t *testing.T) {
	p, q := of(1, 2, 3, 4), of(1, 2, 3, 5)
	images := []api.Image{
		{},
		{Rect: box(0, 0, 2, 1), Pixels: []api.Pixel{p, q}},
		{Rect: box(0, 0, 1, 2), Pixels: []api.Pixel{p, q}},
		{Rect: box(1, 0, 3, 1), Pixels: []api.Pixel{p, q}},
		{Rect: box(0, 0, 2, 2), Pixels: []api.Pixel{p, q}},
		{Rect: box(0, 0, 2, 1), Pixels: []api.Pixel{q, p}},
		{Rect: box(0, 0, 2, 1), Pixels: []api.Pixel{p, p}},
		{Rect: box(0, 0, 2, 1), Pixels: []api.Pixel{p}},
		{Rect: box(0, 0, 2, 1), Pixels: []api.Pixel{p, q, {}}},
		{Rect: box(0, 0, 2, 1)},
		{Rect: box(5, 5, 5, 5)},
		{Rect: box(9, 9, 0, 0)},
		{Pixels: []api.Pixel{{}}},
		{Pixels: []api.Pixel{of(1, 0, 0, 0)}},
		{Rect: box(least, greatest, least, greatest)},
	}
	for i, a := range images {
		for j, b := range images {
			other := api.Image{Rect: b.Rect, Pixels: append([]api.Pixel{}, b.Pixels...)}
			if got := raster.Same(a, other); got != (i == j) {
				t.Errorf("Same of images %d and %d is %v", i, j, got)
			}
		}
	}
}

// keyOf returns the key of a valid raster, from the definition.
func keyOf(r api.Raster) api.Digest {
	var hashed []byte
	part := func(bytes []byte) {
		hashed = binary.BigEndian.AppendUint64(hashed, uint64(len(bytes)))
		hashed = append(hashed, bytes...)
	}
	for _, a := range r.Tiles {
		part(binary.BigEndian.AppendUint32(binary.BigEndian.AppendUint32(nil, uint32(a.Pos.X+65536)), uint32(a.Pos.Y+65536)))
		var pixels []byte
		for _, p := range a.Tile {
			pixels = append(pixels, p.R, p.G, p.B, p.A)
		}
		sum := sha256.Sum256(pixels)
		part(sum[:])
	}
	sum := sha256.Sum256(hashed)
	return api.Digest(sum[:])
}

// P8.6, P8.7: the empty raster, positions of both signs and at the limits, and many tiles; equal rasters have equal keys, and others have others.
func TestKey(t *testing.T) {
	if got := raster.Key(api.Raster{}); got != digest.Of("") {
		t.Errorf("the key of the empty raster is %s", digest.Hex(got))
	}
	keys := map[api.Digest]bool{}
	for i, r := range someRasters() {
		got := raster.Key(r)
		if got != keyOf(r) || got != raster.Key(copied(r)) {
			t.Errorf("the key of raster %d is %s", i, digest.Hex(got))
		}
		keys[got] = true
	}
	if len(keys) != len(someRasters()) {
		t.Errorf("%d rasters have %d keys", len(someRasters()), len(keys))
	}
}

// P8.6: the bytes of a negative position, as a literal.
func TestKeyOfNegativePositions(t *testing.T) {
	r := rasterOf(at(-8192, -1, lit(0, of(1, 2, 3, 4))))
	position, tile := "\x00\x00\xe0\x00\x00\x00\xff\xff", make([]byte, 256)
	copy(tile, "\x01\x02\x03\x04")
	if got := raster.Key(r); got != digest.Join(position, string(digest.Of(string(tile)))) {
		t.Errorf("the key is %s", digest.Hex(got))
	}
}
