package codec

import (
	"cmp"

	"gouache/api"
	"gouache/octet"
)

const (
	positionBytes = 2
	positionLimit = api.MaxCoord / api.TileSize // positions are from -positionLimit to positionLimit - 1
)

// entry is what the index says of a tile.
type entry struct {
	pos     api.TilePos
	preview api.Pixel
	size    int    // bytes of the blob
	sum     string // the bytes of the blob's checksum
}

// bytes returns the entry as the index has it.
func (e entry) bytes() string {
	return octet.Put(e.pos.X+positionLimit, positionBytes) + octet.Put(e.pos.Y+positionLimit, positionBytes) +
		pixelBytes(e.preview) + octet.Var(e.size) + e.sum
}

// readEntry reads what bytes returns. Two bytes may also say a coordinate beyond the limits, so that the entry need not be valid.
func readEntry(r *octet.Reader) entry {
	coordinate := func() int { return r.Num(positionBytes) - positionLimit }
	// Calls are made in the order in which they are written.
	return entry{
		pos:     api.TilePos{X: coordinate(), Y: coordinate()},
		preview: readPixel(r),
		size:    r.Var(),
		sum:     r.Take(sumBytes),
	}
}

// isValid reports whether a tile may be at this position, and have a blob of this size.
func (e entry) isValid() bool {
	return e.pos.X < positionLimit && e.pos.Y < positionLimit && e.size > 0 && e.size <= maxBlobBytes
}

// parseIndex returns the entries of an index, and false if it is none.
func parseIndex(index string) ([]entry, bool) {
	r := octet.Read(index)
	count := r.Var()
	if count < 0 || count > api.MaxTiles {
		return nil, false
	}
	entries := make([]entry, count)
	for i := range entries {
		entries[i] = readEntry(r)
		if !entries[i].isValid() || i > 0 && !isBefore(entries[i-1].pos, entries[i].pos) {
			return nil, false
		}
	}
	return entries, !r.Failed() && r.Left() == 0
}

// isBefore reports whether a raster has the tile at a before that at b.
func isBefore(a, b api.TilePos) bool {
	return cmp.Or(cmp.Compare(a.Y, b.Y), cmp.Compare(a.X, b.X)) < 0
}
