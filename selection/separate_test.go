package selection_test

import (
	"fmt"
	"hash/crc32"
	"testing"

	"gouache/api"
	"gouache/raster"
	"gouache/selection"
)

// The numbers of lines and the checksums of this file are those of texts from a separate calculation with fractions and sets, in another language.

// expectText reports a text with another number of lines, or another checksum.
func expectText(t *testing.T, text []byte, count, wantCount int, wantSum uint32) {
	t.Helper()
	if sum := crc32.ChecksumIEEE(text); count != wantCount || sum != wantSum {
		t.Errorf("%d lines with the checksum %#x", count, sum)
	}
}

// noise returns a raster of 20 by 20 pixels of any alphas.
func noise(seed int) api.Raster {
	next := scatter(seed)
	x0, y0 := next(40)-20, next(40)-20
	pixels := map[api.Point]api.Pixel{}
	for y := range 20 {
		for x := range 20 {
			pixels[pt(x0+x, y0+y)] = of(uint8(x), uint8(y), uint8(seed), uint8(next(256)))
		}
	}
	r, _ := tiled(pixels)
	return r
}

// P15.1, P15.2: the covered pixels of 120 polygons.
func TestSeparateCovers(t *testing.T) {
	var text []byte
	count := 0
	for seed := range 120 {
		polygon := scatteredPolygon(seed)
		b, opaque := selection.Bounds(polygon), of(1, 2, 3, 255)
		filled, _ := selection.Fill(polygon, opaque)
		for y := b.Y0; y < b.Y1; y++ {
			for x := b.X0; x < b.X1; x++ {
				c := selection.Cover(polygon, x, y)
				if int(raster.Get(filled, x, y).A) != c {
					t.Fatalf("the coverage %d of (%d, %d) by %v is not filled", c, x, y, polygon)
				}
				if c > 0 {
					text = fmt.Appendf(text, "%d %d %d %d\n", seed, x, y, c)
					count++
				}
			}
		}
	}
	expectText(t, text, count, 23572, 0xf38ca60b)
}

// P15.4: the pixels inside 150 lists of polygons.
func TestSeparateInsides(t *testing.T) {
	var text []byte
	count := 0
	for seed := range 150 {
		var paths [][]api.Point
		for n := range 1 + seed%4 {
			paths = append(paths, scatteredPolygon(7*seed+n))
		}
		r, _ := selection.Inside(paths, of(1, 2, 3, 4))
		for y := -40; y < 40; y++ {
			for x := -40; x < 40; x++ {
				if raster.Get(r, x, y).A > 0 {
					text = fmt.Appendf(text, "%d %d %d\n", seed, x, y)
					count++
				}
			}
		}
	}
	expectText(t, text, count, 54097, 0xf222f4e4)
}

// P15.3: the polygons of 100 rasters.
func TestSeparateOutlines(t *testing.T) {
	var text []byte
	count := 0
	for seed := range 100 {
		for _, polygon := range selection.Outline(noise(seed), 1+seed*37%255) {
			text = fmt.Append(text, seed)
			for _, p := range polygon {
				text = fmt.Appendf(text, " %d,%d", p.X, p.Y)
			}
			text = append(text, '\n')
			count++
		}
	}
	expectText(t, text, count, 3062, 0xcf550b4d)
}

// P15.5: the values of Union, Common, Minus and Inverse for 40 pairs of rasters.
func TestSeparateMasks(t *testing.T) {
	var text []byte
	count := 0
	for seed := range 40 {
		a, b := noise(seed), noise(seed+500)
		inverted, _ := selection.Inverse(a, box(-10, -5, 15, 21))
		masks := []api.Raster{selection.Union(a, b), selection.Common(a, b), selection.Minus(a, b), inverted}
		places := [2]api.Rect{placeOf(seed), placeOf(seed + 500)}
		for y := -40; y < 60; y++ {
			for x := -40; x < 60; x++ {
				if !contains(places[0], x, y) && !contains(places[1], x, y) {
					continue
				}
				text = fmt.Appendf(text, "%d %d %d", seed, x, y)
				for _, mask := range masks {
					text = fmt.Appendf(text, " %d", raster.Get(mask, x, y).A)
				}
				text = append(text, '\n')
				count++
			}
		}
	}
	expectText(t, text, count, 29051, 0xd5860917)
}

// placeOf returns the rectangle in which noise has pixels.
func placeOf(seed int) api.Rect {
	next := scatter(seed)
	x0, y0 := next(40)-20, next(40)-20
	return box(x0, y0, x0+20, y0+20)
}

// contains reports whether a rectangle contains a pixel.
func contains(r api.Rect, x, y int) bool {
	return x >= r.X0 && x < r.X1 && y >= r.Y0 && y < r.Y1
}
