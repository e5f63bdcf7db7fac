package stroke_test

import (
	"math"
	"slices"

	"gouache/api"
)

const (
	least    = math.MinInt
	greatest = math.MaxInt
	lowest   = -1048576 // the least coordinate of a point
	highest  = 1048575  // the greatest one
)

// at returns the point of a stroke.
func at(x, y, pressure int) api.StrokePoint {
	return api.StrokePoint{X: x, Y: y, Pressure: pressure}
}

// of returns the pixel with these channels.
func of(r, g, b, a uint8) api.Pixel {
	return api.Pixel{R: r, G: g, B: b, A: a}
}

// box returns the rectangle with these sides.
func box(x0, y0, x1, y1 int) api.Rect {
	return api.Rect{X0: x0, Y0: y0, X1: x1, Y1: y1}
}

// dab returns a dab.
func dab(x, y, radius int) api.Dab {
	return api.Dab{X: x, Y: y, Radius: radius}
}

// brush returns an opaque red stroke.
func brush(radius, spacing, phase int, points ...api.StrokePoint) api.Stroke {
	return api.Stroke{Points: points, Radius: radius, Spacing: spacing, Phase: phase, Colour: of(255, 0, 0, 255)}
}

// coloured returns a stroke with another colour.
func coloured(s api.Stroke, p api.Pixel) api.Stroke {
	s.Colour = p
	return s
}

// erasing returns a stroke that erases.
func erasing(s api.Stroke) api.Stroke {
	s.Erase = true
	return s
}

// pressed returns points at full pressure, given their coordinates in turn.
func pressed(coordinates ...int) []api.StrokePoint {
	var points []api.StrokePoint
	for c := range slices.Chunk(coordinates, 2) {
		points = append(points, at(c[0], c[1], 255))
	}
	return points
}

// winding returns n points near the origin, with pressures that rise and fall.
func winding(n int) []api.StrokePoint {
	points := make([]api.StrokePoint, n)
	for i := range points {
		points[i] = at(7*i%23-11, 5*i%19-9, 40*i%256)
	}
	return points
}

// copyOf returns a stroke that shares no memory with s.
func copyOf(s api.Stroke) api.Stroke {
	s.Points = slices.Clone(s.Points)
	return s
}

// isSame reports whether two strokes are equal.
func isSame(a, b api.Stroke) bool {
	return slices.Equal(a.Points, b.Points) && a.Radius == b.Radius && a.Spacing == b.Spacing && a.Colour == b.Colour && a.Erase == b.Erase && a.Phase == b.Phase
}

// field returns the place of a field of a stroke: first X, Y and Pressure of the point with this index, then Radius, Spacing and Phase.
func field(s *api.Stroke, number, index int) *int {
	p := &s.Points[index]
	return []*int{&p.X, &p.Y, &p.Pressure, &s.Radius, &s.Spacing, &s.Phase}[number]
}

// fieldLimits returns the least and the greatest valid value of each field.
func fieldLimits() [][2]int {
	return [][2]int{{lowest, highest}, {lowest, highest}, {0, 255}, {1, 256}, {1, 4096}, {0, 1048575}}
}

// withFields returns strokes of which a field has been replaced by each of these values, at the first, a middle and the last point if it is one of a point.
func withFields(s api.Stroke, number int, values ...int) []api.Stroke {
	indices := []int{0}
	if number < 3 {
		indices = slices.Compact([]int{0, len(s.Points) / 2, len(s.Points) - 1})
	}
	var strokes []api.Stroke
	for _, index := range indices {
		for _, v := range values {
			changed := copyOf(s)
			*field(&changed, number, index) = v
			strokes = append(strokes, changed)
		}
	}
	return strokes
}

// far returns strokes of which any single field can be replaced by any valid value without making too many dabs: their points are near one another, or their spacing is large.
func far() []api.Stroke {
	return []api.Stroke{
		brush(16, 4096, 0, pressed(0, 0)...),
		brush(16, 4096, 5, pressed(0, 0, 100, 0)...),
		brush(16, 4096, 5, pressed(0, 0, 100, 0, 0, 50)...),
		brush(256, 4096, 1048575, winding(5)...),
		brush(1, 4096, 0, winding(64)...),
	}
}

// validStrokes returns strokes of all sizes.
func validStrokes() []api.Stroke {
	strokes := slices.Concat(far(), []api.Stroke{
		brush(16, 40, 10, pressed(0, 0, 100, 0)...),
		brush(16, 40, 10, pressed(0, 0, 100, 0, 100, 30)...),
		brush(8, 1, 0, at(8, 8, 255)),
		brush(8, 1, 0, at(8, 8, 0)),
		brush(100, 20, 0, at(0, 0, 0), at(-30, 40, 255)),
		brush(3, 1, 0, at(5, 5, 128), at(5, 5, 255), at(5, 5, 0)),
		brush(7, 3, 2, at(5, 5, 128), at(5, 5, 255), at(-20, 9, 0), at(-20, 9, 255)),
		brush(256, 9, 0, at(0, 0, 255), at(60, 80, 10), at(-70, 3, 200)),
		brush(1, 1, 0, pressed(0, 0, 1024, 0)...),
		brush(1, 1, 1048575, pressed(0, 0, 1024, 0)...),
		brush(256, 4096, 0, pressed(lowest, lowest, highest, highest)...),
		brush(256, 4096, 1000, pressed(highest, lowest, lowest, highest)...),
		brush(256, 4096, 1048575, pressed(lowest, highest)...),
		brush(20, 11, 5, winding(2)...),
		brush(30, 11, 5, winding(3)...),
		brush(40, 17, 50, winding(64)...),
		coloured(brush(33, 8, 1, pressed(-40, 20, 80, 30, 10, -90)...), of(9, 99, 199, 100)),
		coloured(brush(33, 8, 1, pressed(-40, 20, 80, 30, 10, -90)...), of(9, 99, 199, 0)),
		erasing(brush(33, 8, 1, pressed(-40, 20, 80, 30, 10, -90)...)),
		erasing(coloured(brush(12, 6, 3, winding(20)...), of(255, 254, 253, 252))),
	})
	for n, limits := range fieldLimits() {
		for _, s := range far() {
			strokes = append(strokes, withFields(s, n, limits[0], limits[1])...)
		}
	}
	return strokes
}

// invalidStrokes returns strokes each of which has one fault: a field beyond its limits, too few or too many points, or too many dabs.
func invalidStrokes() []api.Stroke {
	strokes := []api.Stroke{
		{}, brush(16, 40, 10), brush(1, 4096, 0, winding(65)...), brush(1, 4096, 0, winding(300)...),
		brush(1, 1, 0, pressed(0, 0, 1025, 0)...), brush(1, 1, 0, pressed(0, 0, 0, -500, 525, -500)...), brush(5, 100, 0, pressed(0, 0, 102401, 0)...),
	}
	for n, limits := range fieldLimits() {
		for _, s := range far() {
			strokes = append(strokes, withFields(s, n, limits[0]-1, limits[1]+1, least, greatest, 1<<32|limits[1])...)
		}
	}
	return strokes
}

// scatter returns a function that returns integers from 0 to n - 1 without a visible order, others for each seed.
func scatter(seed int) func(n int) int {
	state := uint64(seed)*0x9E3779B97F4A7C15 + 1
	return func(n int) int {
		state = state*6364136223846793005 + 1442695040888963407
		return int(state >> 33 % uint64(n))
	}
}

// scatteredStroke returns a valid stroke without a visible order. Some of its segments have the length 0.
func scatteredStroke(seed int) api.Stroke {
	next := scatter(seed)
	reach := []int{3, 40, 300, 1200}[next(4)]
	s := api.Stroke{Radius: 1 + next(256), Spacing: 1 + reach/50 + next(1+reach/4), Phase: next(1 + 2*reach)}
	x, y := next(601)-300, next(601)-300
	for range 1 + next(8) {
		s.Points = append(s.Points, at(x, y, next(256)))
		if next(4) > 0 {
			x += next(2*reach+1) - reach
		}
		if next(4) > 0 {
			y += next(2*reach+1) - reach
		}
	}
	s.Colour = of(uint8(next(256)), uint8(next(256)), uint8(next(256)), uint8(next(256)))
	s.Erase = next(4) == 0
	return s
}

// inOrder orders tiles by their positions.
func inOrder(a, b api.TileAt) int {
	if a.Pos.Y != b.Pos.Y {
		return a.Pos.Y - b.Pos.Y
	}
	return a.Pos.X - b.Pos.X
}

// solid returns a tile of equal pixels.
func solid(x, y int, p api.Pixel) api.TileAt {
	t := api.TileAt{Pos: api.TilePos{X: x, Y: y}}
	for i := range t.Tile {
		t.Tile[i] = p
	}
	return t
}

// rasterOf returns the raster of these tiles.
func rasterOf(tiles ...api.TileAt) api.Raster {
	tiles = slices.Clone(tiles)
	slices.SortFunc(tiles, inOrder)
	return api.Raster{Tiles: tiles}
}

// rows returns a raster of n blue tiles in rows of 32, the first one at the origin.
func rows(n int) api.Raster {
	var tiles []api.TileAt
	for i := range n {
		tiles = append(tiles, solid(i%32, i/32, of(0, 0, 255, 200)))
	}
	return rasterOf(tiles...)
}

// scatteredRaster returns a raster of about n tiles around the origin and in the corners of the limits, some pixels of which are transparent.
func scatteredRaster(seed, n int) api.Raster {
	next := scatter(seed)
	places := []api.TilePos{{X: -8192, Y: -8192}, {X: 8191, Y: 8191}, {X: -8192, Y: 8191}}
	for range n {
		places = append(places, api.TilePos{X: next(9) - 4, Y: next(9) - 4})
	}
	tiles := map[api.TilePos]api.TileAt{}
	for _, pos := range places {
		t := api.TileAt{Pos: pos}
		for i := range t.Tile {
			if next(3) > 0 {
				t.Tile[i] = of(uint8(next(256)), uint8(next(256)), uint8(next(256)), uint8(1+next(255)))
			}
		}
		tiles[pos] = t
	}
	var all []api.TileAt
	for _, t := range tiles {
		all = append(all, t)
	}
	return rasterOf(all...)
}

// invalidRasters returns rasters that are not valid, each for another reason.
func invalidRasters() []api.Raster {
	blue := of(0, 0, 255, 255)
	unclean := solid(0, 0, blue)
	unclean.Tile[5] = of(1, 0, 0, 0)
	return []api.Raster{
		{Tiles: []api.TileAt{solid(1, 0, blue), solid(0, 0, blue)}},
		{Tiles: []api.TileAt{solid(0, 1, blue), solid(0, 0, blue)}},
		{Tiles: []api.TileAt{solid(0, 0, blue), solid(0, 0, blue)}},
		{Tiles: []api.TileAt{solid(0, 0, blue), solid(1, 0, api.Pixel{})}},
		{Tiles: []api.TileAt{unclean}},
		{Tiles: []api.TileAt{solid(8192, 0, blue)}},
		{Tiles: []api.TileAt{solid(0, -8193, blue)}},
		rows(1025),
	}
}
