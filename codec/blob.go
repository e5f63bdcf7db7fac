package codec

import (
	"gouache/api"
	"gouache/coder"
	"gouache/octet"
	"gouache/pixel"
	"gouache/predict"
	"gouache/tile"
)

// The forms of a blob, as its first byte says them.
const (
	solidForm = iota // the pixel that all pixels equal
	plainForm        // the bytes of the tile
	codedForm        // the number of a predictor, and the residuals in the encoding of coder
	formCount
)

const (
	tileBytes    = 4 * api.TilePixels // of a tile, and of its residuals
	maxBlobBytes = 1 + tileBytes      // of the plain form
)

// packedTile is a tile with what the index says of it.
type packedTile struct {
	entry
	blob string
}

// pack compresses a tile.
func pack(at api.TileAt) packedTile {
	blob := encode(at.Tile)
	return packedTile{entry{pos: at.Pos, preview: mean(at.Tile), size: len(blob), sum: sumOf(blob)}, blob}
}

// attach gives each entry its blob, the next one that the reader has.
func attach(entries []entry, r *octet.Reader) ([]packedTile, api.Errno) {
	tiles := make([]packedTile, len(entries))
	for i, e := range entries {
		tiles[i] = packedTile{e, r.Take(e.size)}
	}
	switch {
	case r.Failed():
		return nil, api.ErrShort
	case r.Left() > 0:
		return nil, api.ErrForm
	}
	return tiles, api.OK
}

// decode returns the tile, which is one that a raster may have.
func (p packedTile) decode() (api.Tile, api.Errno) {
	if p.sum != sumOf(p.blob) {
		return api.Tile{}, api.ErrSum
	}
	t, formed := decodeForm(p.blob)
	if !formed || tile.Zero(t) || tile.Clean(t) != t {
		return api.Tile{}, api.ErrForm
	}
	return t, api.OK
}

// encode returns the blob of a tile.
func encode(t api.Tile) string {
	if p, solid := tile.Solid(t); solid {
		return octet.Put(solidForm, 1) + pixelBytes(p)
	}
	predictor := predict.Best(t)
	residuals, _ := predict.Forward(t, predictor)
	coded := octet.Put(codedForm, 1) + octet.Put(predictor, 1) + coder.Encode(residuals)
	if len(coded) < maxBlobBytes {
		return coded
	}
	return octet.Put(plainForm, 1) + tile.Bytes(t)
}

// decodeForm returns the tile whose blob, which is not empty, has one of the forms, and false if it has none of them.
func decodeForm(blob string) (api.Tile, bool) {
	form := blob[0]
	if form >= formCount {
		return api.Tile{}, false
	}
	t, err := decoders()[form](blob[1:])
	return t, err == api.OK
}

// decoders returns the functions that decode what follows the first byte of each form.
func decoders() [formCount]func(body string) (api.Tile, api.Errno) {
	return [...]func(body string) (api.Tile, api.Errno){
		solidForm: decodeSolid,
		plainForm: tile.Read,
		codedForm: decodeCoded,
	}
}

// decodeSolid decodes a pixel.
func decodeSolid(body string) (api.Tile, api.Errno) {
	r := octet.Read(body)
	p := readPixel(r)
	if r.Failed() || r.Left() > 0 {
		return api.Tile{}, api.ErrForm
	}
	return tile.Fill(p), api.OK
}

// decodeCoded decodes residuals.
func decodeCoded(body string) (api.Tile, api.Errno) {
	r := octet.Read(body)
	predictor := r.Num(1)
	residuals, err := coder.Decode(r.Take(r.Left()), tileBytes)
	if err != api.OK {
		return api.Tile{}, err
	}
	return predict.Inverse(residuals, predictor)
}

// mean returns the mean of the pixels of a tile.
func mean(t api.Tile) api.Pixel {
	var m pixel.Mean
	for _, p := range t {
		m.Add(p, 1)
	}
	return m.Pixel()
}

// pixelBytes returns the bytes of a pixel.
func pixelBytes(p api.Pixel) string {
	return string([]byte{p.R, p.G, p.B, p.A})
}

// readPixel reads what pixelBytes returns.
func readPixel(r *octet.Reader) api.Pixel {
	channel := func() uint8 { return uint8(r.Num(1)) }
	// Calls are made in the order in which they are written.
	return api.Pixel{R: channel(), G: channel(), B: channel(), A: channel()}
}
