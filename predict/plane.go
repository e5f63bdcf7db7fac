package predict

import "gouache/api"

const (
	planeCount    = 4
	residualBytes = planeCount * api.TilePixels
)

// plane holds one value per pixel of a tile, in the order of the pixels.
type plane [api.TilePixels]uint8

// split returns the planes of a tile.
func split(t api.Tile) (y, u, v, alpha plane) {
	for i, p := range t {
		y[i], u[i], v[i] = Swap(p.R, p.G, p.B)
		alpha[i] = p.A
	}
	return y, u, v, alpha
}

// unite returns the tile that has these planes.
func unite(y, u, v, alpha plane) api.Tile {
	var t api.Tile
	for i := range t {
		r, g, b := Back(y[i], u[i], v[i])
		t[i] = api.Pixel{R: r, G: g, B: b, A: alpha[i]}
	}
	return t
}

// join returns the bytes of planes, one plane after another.
func join(planes ...plane) string {
	bytes := make([]byte, 0, len(planes)*api.TilePixels)
	for _, p := range planes {
		bytes = append(bytes, p[:]...)
	}
	return string(bytes)
}

// cut returns the plane with a number, from 0 on, of those whose bytes were joined.
func cut(joined string, number int) plane {
	var p plane
	copy(p[:], joined[number*api.TilePixels:])
	return p
}
