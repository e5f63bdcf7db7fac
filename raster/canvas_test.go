package raster_test

import (
	"slices"

	"gouache/api"
)

// canvas is a raster as the document defines it, without tiles: its visible pixels. What the calls return is compared with it.
type canvas map[api.Point]api.Pixel

// set replaces a pixel.
func (c canvas) set(x, y int, p api.Pixel) {
	if p.A == 0 {
		delete(c, api.Point{X: x, Y: y})
		return
	}
	c[api.Point{X: x, Y: y}] = p
}

// paste replaces the pixels in the rectangle of m.
func (c canvas) paste(m api.Image) {
	i := 0
	for y := m.Rect.Y0; y < m.Rect.Y1; y++ {
		for x := m.Rect.X0; x < m.Rect.X1; x++ {
			c.set(x, y, m.Pixels[i])
			i++
		}
	}
}

// pixels returns the pixels in r, row by row.
func (c canvas) pixels(r api.Rect) []api.Pixel {
	var pixels []api.Pixel
	for y := r.Y0; y < r.Y1; y++ {
		for x := r.X0; x < r.X1; x++ {
			pixels = append(pixels, c[api.Point{X: x, Y: y}])
		}
	}
	return pixels
}

// cropped returns the pixels that r contains.
func (c canvas) cropped(r api.Rect) canvas {
	inside := canvas{}
	for p, value := range c {
		if p.X >= r.X0 && p.X < r.X1 && p.Y >= r.Y0 && p.Y < r.Y1 {
			inside[p] = value
		}
	}
	return inside
}

// bounds returns the smallest rectangle that contains all pixels.
func (c canvas) bounds() api.Rect {
	if len(c) == 0 {
		return api.Rect{}
	}
	b := box(greatest, greatest, least, least)
	for p := range c {
		b = box(min(b.X0, p.X), min(b.Y0, p.Y), max(b.X1, p.X+1), max(b.Y1, p.Y+1))
	}
	return b
}

// raster returns the raster with these pixels.
func (c canvas) raster() api.Raster {
	tiles := map[api.TilePos]api.Tile{}
	for p, value := range c {
		pos := api.TilePos{X: p.X >> 3, Y: p.Y >> 3}
		t := tiles[pos]
		t[8*(p.Y&7)+p.X&7] = value
		tiles[pos] = t
	}
	var r api.Raster
	for pos, t := range tiles {
		r.Tiles = append(r.Tiles, api.TileAt{Pos: pos, Tile: t})
	}
	slices.SortFunc(r.Tiles, inOrder)
	return r
}

// scatter returns numbers that differ widely, always the same ones for the same seed.
func scatter(seed int) func(n int) int {
	state := uint64(seed)*0x9E3779B97F4A7C15 + 1
	return func(n int) int {
		state = state*6364136223846793005 + 1442695040888963407
		return int(state >> 33 % uint64(n))
	}
}

// scattered returns n pixels; every third one of them is transparent, some of these with a colour.
func scattered(seed, n int) []api.Pixel {
	next := scatter(seed)
	pixels := make([]api.Pixel, n)
	for i := range pixels {
		pixels[i] = of(uint8(next(256)), uint8(next(256)), uint8(next(256)), uint8(1+next(255)))
		switch next(6) {
		case 0:
			pixels[i].A = 0
		case 1:
			pixels[i] = api.Pixel{}
		}
	}
	return pixels
}

// someCanvas returns a canvas of about n pixels around the origin, some of them in the same tiles, and in the corners of the limits.
func someCanvas(seed, n int) canvas {
	next, c := scatter(seed), canvas{}
	for i, p := range scattered(seed, n) {
		switch next(12) {
		case 0:
			c.set(-65536+next(9), 65535-next(9), p)
		case 1:
			c.set(65535-next(9), -65536+next(9), p)
		case 2:
			c.set(next(300)-150, next(300)-150, p)
		default:
			c.set(next(24)-12, next(24)-12+i%2, p)
		}
	}
	return c
}
