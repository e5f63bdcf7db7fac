package filter

import (
	"iter"

	"gouache/api"
	"gouache/rect"
)

// view gives access to the pixels of a well-formed image by their places.
type view api.Image

// output is an image as a function: it returns the pixel at a place. The pixel need not be clean.
type output func(at api.Point) api.Pixel

// pixel returns the pixel at a place in the image.
func (v view) pixel(at api.Point) api.Pixel {
	return v.Pixels[(at.Y-v.Rect.Y0)*(v.Rect.X1-v.Rect.X0)+at.X-v.Rect.X0]
}

// window yields the pixels of the window of a place, row by row, with their numbers.
func (v view) window(at api.Point, radius int) iter.Seq2[int, api.Pixel] {
	covered := rect.Grow(api.Rect{X0: at.X, Y0: at.Y, X1: at.X + 1, Y1: at.Y + 1}, radius)
	return func(yield func(int, api.Pixel) bool) {
		for i, place := range places(covered) {
			if !yield(i, v.pixel(place)) {
				return
			}
		}
	}
}

// recolour returns the image with each colour channel replaced by that function of it.
func (v view) recolour(channel func(c uint8) uint8) output {
	return func(at api.Point) api.Pixel {
		p := v.pixel(at)
		return api.Pixel{R: channel(p.R), G: channel(p.G), B: channel(p.B), A: p.A}
	}
}

// windowSize returns the number of pixels of a window.
func windowSize(radius int) int {
	side := 2*radius + 1
	return side * side
}

// places yields the points of r, row by row, with their numbers.
func places(r api.Rect) iter.Seq2[int, api.Point] {
	width := r.X1 - r.X0
	return func(yield func(int, api.Point) bool) {
		for i := range rect.Area(r) {
			if !yield(i, api.Point{X: r.X0 + i%width, Y: r.Y0 + i/width}) {
				return
			}
		}
	}
}
