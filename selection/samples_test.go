package selection_test

import (
	"math"
	"slices"

	"gouache/api"
)

const (
	least    = math.MinInt
	greatest = math.MaxInt
	lowest   = -65536 // the least coordinate of a point
	highest  = 65536  // the greatest one
)

// pt returns the point with these coordinates.
func pt(x, y int) api.Point {
	return api.Point{X: x, Y: y}
}

// path returns the points whose coordinates these are in turn.
func path(coordinates ...int) []api.Point {
	var points []api.Point
	for c := range slices.Chunk(coordinates, 2) {
		points = append(points, pt(c[0], c[1]))
	}
	return points
}

// square returns the polygon around a rectangle.
func square(x0, y0, x1, y1 int) []api.Point {
	return path(x0, y0, x1, y0, x1, y1, x0, y1)
}

// of returns the pixel with these channels.
func of(r, g, b, a uint8) api.Pixel {
	return api.Pixel{R: r, G: g, B: b, A: a}
}

// box returns the rectangle with these sides.
func box(x0, y0, x1, y1 int) api.Rect {
	return api.Rect{X0: x0, Y0: y0, X1: x1, Y1: y1}
}

// winding returns n points near the origin that no line contains.
func winding(n int) []api.Point {
	points := make([]api.Point, n)
	for i := range points {
		points[i] = pt(7*i%23-11, 5*i*i%19-9)
	}
	return points
}

// around returns n points in turn on the sides of the square from -r to r.
func around(n, r int) []api.Point {
	points := make([]api.Point, n)
	for i := range points {
		at := 8 * r * i / n
		along := at%(2*r) - r
		points[i] = []api.Point{pt(along, -r), pt(r, along), pt(-along, r), pt(-r, -along)}[at/(2*r)]
	}
	return points
}

// moved returns a polygon that has been moved.
func moved(polygon []api.Point, x, y int) []api.Point {
	points := slices.Clone(polygon)
	for i := range points {
		points[i].X += x
		points[i].Y += y
	}
	return points
}

// replaced returns a polygon of which one point is another one.
func replaced(polygon []api.Point, index int, p api.Point) []api.Point {
	points := slices.Clone(polygon)
	points[index] = p
	return points
}

// reversed returns a polygon in the other orientation.
func reversed(polygon []api.Point) []api.Point {
	points := slices.Clone(polygon)
	slices.Reverse(points)
	return points
}

// rotated returns a polygon that starts with another one of its points.
func rotated(polygon []api.Point, n int) []api.Point {
	return slices.Concat(polygon[n:], polygon[:n])
}

// polygons returns valid polygons of all kinds, none of them far from the origin.
func polygons() [][]api.Point {
	return [][]api.Point{
		square(0, 0, 2, 1), square(-3, -5, 4, 6), square(-9, 7, -1, 9), path(0, 0, 1, 0, 0, 1),
		path(0, 0, 2, 0, 0, 4), path(0, 0, 7, 3, 2, 9), path(-5, -7, 9, 1, -3, 8), path(0, 0, 1, 13, 2, 0), path(0, 0, 13, 1, 0, 2),
		// Repeated points, and points on a line between others.
		path(0, 0, 0, 0, 2, 0, 2, 1, 2, 1, 2, 1, 0, 1), path(0, 0, 1, 0, 2, 0, 2, 1, 1, 1, 0, 1), path(0, 0, 6, 6, 3, 3, 9, 0),
		// On a line, and at one point.
		path(0, 0, 5, 0, 9, 0), path(0, 0, 0, 7, 0, 3), path(0, 0, 3, 3, 8, 8), path(-4, 1, 6, 6, 2, 4), path(3, 3, 3, 3, 3, 3), path(0, 0, 9, 4, 0, 0),
		// Polygons that cross themselves, and that run along edges twice.
		path(0, 0, 6, 6, 6, 0, 0, 6), path(0, -8, 5, 7, -8, -3, 8, -3, -5, 7), path(0, 0, 4, 0, 4, 4, 0, 4, 0, 0, 4, 0, 4, 4, 0, 4),
		path(0, 0, 8, 0, 8, 8, 2, 8, 2, 2, 6, 2, 6, 6, 2, 6, 2, 8, 0, 8), path(0, 0, 9, 0, 5, 0, 5, 9, 5, 0, 4, 0, 4, 5),
		// Corners at the same height, some of which go on upwards or downwards, and some of which turn back.
		path(0, 0, 2, 3, 4, 0, 6, 3, 8, 0, 8, 6, 6, 3, 4, 6, 2, 3, 0, 6), path(0, 3, 4, 3, 4, 0, 8, 3, 12, 3, 8, 6),
		winding(3), winding(5), winding(17), winding(63), winding(64), around(64, 20), around(30, 9),
	}
}

// invalidPolygons returns polygons with too few or too many points, and with a coordinate beyond the limits.
func invalidPolygons() [][]api.Point {
	invalid := [][]api.Point{nil, {}, path(1, 2), path(0, 0, 5, 5), winding(65), around(65, 20), winding(1000), make([]api.Point, 65), make([]api.Point, 100000)}
	for _, polygon := range [][]api.Point{path(0, 0, 7, 3, 2, 9), square(0, 0, 2, 1), winding(64)} {
		for _, index := range []int{0, len(polygon) / 2, len(polygon) - 1} {
			for _, n := range []int{lowest - 1, highest + 1, least, greatest, least + 1, 1 << 32, -1 << 32, 1 << 61} {
				invalid = append(invalid, replaced(polygon, index, pt(n, polygon[index].Y)), replaced(polygon, index, pt(polygon[index].X, n)))
			}
		}
	}
	return invalid
}

// scatter returns a function that returns integers from 0 to n - 1 without a visible order, others for each seed.
func scatter(seed int) func(n int) int {
	state := uint64(seed)*0x9E3779B97F4A7C15 + 1
	return func(n int) int {
		state = state*6364136223846793005 + 1442695040888963407
		return int(state >> 33 % uint64(n))
	}
}

// scatteredPolygon returns a polygon of some points without a visible order, no more than a few pixels or tiles away from the origin.
func scatteredPolygon(seed int) []api.Point {
	next := scatter(seed)
	reach := []int{1, 3, 10, 30}[next(4)]
	var points []api.Point
	for range 3 + next(10) {
		points = append(points, pt(next(2*reach+1)-reach, next(2*reach+1)-reach))
	}
	return points
}

// inOrder orders tiles by their positions.
func inOrder(a, b api.TileAt) int {
	if a.Pos.Y != b.Pos.Y {
		return a.Pos.Y - b.Pos.Y
	}
	return a.Pos.X - b.Pos.X
}

// solid returns a tile of equal pixels.
func solid(x, y int, p api.Pixel) api.TileAt {
	t := api.TileAt{Pos: api.TilePos{X: x, Y: y}}
	for i := range t.Tile {
		t.Tile[i] = p
	}
	return t
}

// rasterOf returns the raster of these tiles.
func rasterOf(tiles ...api.TileAt) api.Raster {
	tiles = slices.Clone(tiles)
	slices.SortFunc(tiles, inOrder)
	return api.Raster{Tiles: tiles}
}

// rows returns a raster of n solid tiles in rows of 32, the first one at the given position.
func rows(n, x, y int, p api.Pixel) api.Raster {
	var tiles []api.TileAt
	for i := range n {
		tiles = append(tiles, solid(x+i%32, y+i/32, p))
	}
	return rasterOf(tiles...)
}

// drawn returns the raster of a picture whose lines begin at (x, y). Digits are the alphas of pixels (7, 8, 9), in units of 28, so that 9 is 252; other characters are transparent.
func drawn(x, y int, lines ...string) api.Raster {
	pixels := map[api.Point]api.Pixel{}
	for j, line := range lines {
		for i, c := range []byte(line) {
			if c >= '0' && c <= '9' {
				pixels[pt(x+i, y+j)] = of(7, 8, 9, 28*(c-'0'))
			}
		}
	}
	r, _ := tiled(pixels)
	return r
}

// scatteredRaster returns a raster of about n tiles around the origin and in the corners of the limits, with pixels of many alphas or of alphas 0 and 255 only.
func scatteredRaster(seed, n int, isBlack bool) api.Raster {
	next := scatter(seed)
	places := []api.TilePos{{X: -8192, Y: -8192}, {X: 8191, Y: 8191}, {X: -8192, Y: 8191}}
	for range n {
		places = append(places, api.TilePos{X: next(9) - 4, Y: next(9) - 4})
	}
	tiles := map[api.TilePos]api.TileAt{}
	for _, pos := range places {
		t := api.TileAt{Pos: pos}
		share := next(4)
		for i := range t.Tile {
			switch {
			case next(4) < share:
			case isBlack:
				t.Tile[i] = of(0, 0, 0, 255)
			default:
				t.Tile[i] = of(uint8(next(256)), uint8(next(256)), uint8(next(256)), uint8(1+next(255)))
			}
		}
		if t.Tile != (api.Tile{}) {
			tiles[pos] = t
		}
	}
	var all []api.TileAt
	for _, t := range tiles {
		all = append(all, t)
	}
	return rasterOf(all...)
}

// rasters returns valid rasters of all kinds.
func rasters() []api.Raster {
	return []api.Raster{
		{}, drawn(0, 0, "9"), drawn(-1, -1, "19", "91"), drawn(-3, 5, "123456789", "9 9 9 9", "  5", "5   5"), rows(1, 0, 0, of(0, 0, 0, 255)), rows(70, -5, -1, of(1, 2, 3, 100)), rows(1024, -16, -16, of(200, 100, 0, 1)),
		scatteredRaster(1, 5, false), scatteredRaster(2, 30, false), scatteredRaster(3, 60, false), scatteredRaster(4, 30, true),
	}
}

// invalidRasters returns rasters that are not valid, each for another reason.
func invalidRasters() []api.Raster {
	blue := of(0, 0, 255, 255)
	unclean := solid(0, 0, blue)
	unclean.Tile[5] = of(1, 0, 0, 0)
	return []api.Raster{
		{Tiles: []api.TileAt{solid(1, 0, blue), solid(0, 0, blue)}},
		{Tiles: []api.TileAt{solid(0, 1, blue), solid(0, 0, blue)}},
		{Tiles: []api.TileAt{solid(0, 0, blue), solid(0, 0, blue)}},
		{Tiles: []api.TileAt{solid(0, 0, blue), solid(1, 0, api.Pixel{})}},
		{Tiles: []api.TileAt{unclean}},
		{Tiles: []api.TileAt{solid(8192, 0, blue)}},
		{Tiles: []api.TileAt{solid(0, -8193, blue)}},
		{Tiles: []api.TileAt{solid(least, greatest, blue)}},
		rows(1025, 0, 0, blue),
	}
}
