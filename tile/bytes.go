package tile

import (
	"gouache/api"
	"gouache/digest"
)

const (
	pixelBytes = 4 // bytes of a pixel
	tileBytes  = pixelBytes * api.TilePixels
)

// Bytes returns the red, green, blue and alpha of each pixel in turn.
func Bytes(t api.Tile) string {
	bytes := make([]byte, 0, tileBytes)
	for i := range places {
		bytes = append(bytes, t[i].R, t[i].G, t[i].B, t[i].A)
	}
	return string(bytes)
}

// Read returns the tile that has these bytes, and ErrForm for a string of any other length than Bytes returns.
func Read(s string) (api.Tile, api.Errno) {
	if len(s) != tileBytes {
		return api.Tile{}, api.ErrForm
	}
	t := generate(func(i int, _ api.Point) api.Pixel {
		channels := s[pixelBytes*i:]
		return api.Pixel{R: channels[0], G: channels[1], B: channels[2], A: channels[3]}
	})
	return t, api.OK
}

// Key returns the digest of t. It depends on the colours of transparent pixels, too.
func Key(t api.Tile) api.Digest {
	return digest.Of(Bytes(t))
}
