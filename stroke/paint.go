package stroke

import (
	"cmp"
	"slices"

	"gouache/api"
	"gouache/pixel"
	"gouache/raster"
	"gouache/rect"
)

const (
	sampleSide  = 4                          // samples in a row or column of a pixel
	sampleStep  = unitsPerPixel / sampleSide // from a sample to the next one
	sampleStart = sampleStep / 2             // from the side of a pixel to its first samples
	full        = 255                        // the greatest coverage
	maxCovered  = 80000                      // the greatest absolute value in the coordinates of a covered pixel
)

// canvas contains the pixels within the coordinate limits.
var canvas = api.Rect{X0: -api.MaxCoord, Y0: -api.MaxCoord, X1: api.MaxCoord, Y1: api.MaxCoord}

// painting is a raster that is being painted on. Its tiles may be transparent, but their pixels are clean.
type painting map[api.TilePos]*api.Tile

// Cover returns the coverage of the pixel at (x, y) by a dab, which is estimated by samples.
func Cover(d api.Dab, x, y int) int {
	if !isWithin(d.Radius, 1, api.MaxBrush) || !isUnit(d.X) || !isUnit(d.Y) || !isWithin(x, -maxCovered, maxCovered) || !isWithin(y, -maxCovered, maxCovered) {
		return 0
	}
	left, top := unitsPerPixel*x+sampleStart-d.X, unitsPerPixel*y+sampleStart-d.Y
	count := 0
	for j := range sampleSide {
		for i := range sampleSide {
			dx, dy := left+sampleStep*i, top+sampleStep*j
			if dx*dx+dy*dy <= d.Radius*d.Radius {
				count++
			}
		}
	}
	return round(full*count, sampleSide*sampleSide)
}

// Paint returns a raster with a stroke painted on it.
func Paint(r api.Raster, s api.Stroke) (api.Raster, api.Errno) {
	if !Valid(s) {
		return api.Raster{}, api.ErrArg
	}
	p, change := paintingOf(r), operation(s)
	for d := range dabs(s) {
		p.stamp(d, change)
	}
	return p.raster()
}

// square returns a rectangle that contains all pixels that a dab covers. A dab without a radius covers none.
func square(d api.Dab) api.Rect {
	if d.Radius <= 0 {
		return api.Rect{}
	}
	return api.Rect{
		X0: rect.Floor(d.X-d.Radius, unitsPerPixel),
		Y0: rect.Floor(d.Y-d.Radius, unitsPerPixel),
		X1: rect.Floor(d.X+d.Radius, unitsPerPixel) + 1,
		Y1: rect.Floor(d.Y+d.Radius, unitsPerPixel) + 1,
	}
}

// operation returns the function that paints or erases a pixel with a coverage.
func operation(s api.Stroke) func(p api.Pixel, coverage int) api.Pixel {
	if s.Erase {
		return func(p api.Pixel, coverage int) api.Pixel { return pixel.Fade(p, full-coverage) }
	}
	return func(p api.Pixel, coverage int) api.Pixel { return pixel.Over(p, s.Colour, api.Normal, coverage) }
}

// paintingOf returns a copy of a raster, of which nothing is left if it is not valid.
func paintingOf(r api.Raster) painting {
	p := painting{}
	if raster.Valid(r) {
		for _, at := range r.Tiles {
			// Each iteration has a variable of its own, so that this is no tile of r.
			p[at.Pos] = &at.Tile
		}
	}
	return p
}

// stamp changes the pixels that a dab covers.
func (p painting) stamp(d api.Dab, change func(p api.Pixel, coverage int) api.Pixel) {
	area := rect.Intersect(square(d), canvas)
	for y := area.Y0; y < area.Y1; y++ {
		for x := area.X0; x < area.X1; x++ {
			if coverage := Cover(d, x, y); coverage != 0 {
				place := p.pixel(api.Point{X: x, Y: y})
				*place = change(*place, coverage)
			}
		}
	}
}

// pixel returns the place of a pixel, whose tile is made if there is none.
func (p painting) pixel(at api.Point) *api.Pixel {
	pos := rect.At(at)
	t := p[pos]
	if t == nil {
		t = &api.Tile{}
		p[pos] = t
	}
	covered := rect.Of(pos)
	return &t[(at.Y-covered.Y0)*api.TileSize+at.X-covered.X0]
}

// raster returns the raster that has been painted.
func (p painting) raster() (api.Raster, api.Errno) {
	var tiles []api.TileAt
	for pos, t := range p {
		if *t != (api.Tile{}) {
			tiles = append(tiles, api.TileAt{Pos: pos, Tile: *t})
		}
	}
	if len(tiles) > api.MaxTiles {
		return api.Raster{}, api.ErrMany
	}
	slices.SortFunc(tiles, func(a, b api.TileAt) int {
		return cmp.Or(cmp.Compare(a.Pos.Y, b.Pos.Y), cmp.Compare(a.Pos.X, b.Pos.X))
	})
	return api.Raster{Tiles: tiles}, api.OK
}
