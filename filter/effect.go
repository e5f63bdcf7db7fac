package filter

import (
	"slices"

	"gouache/api"
	"gouache/curve"
	"gouache/rect"
)

const (
	full      = 255 // the greatest channel value
	wideScale = 257 // a channel value times this has 16 bits
)

// effect is a valid filter. It has a method for each kind, which returns the image that a filter of this kind makes of another one.
type effect api.Filter

// effects returns the methods by the kinds of filters.
func effects() [api.Offset + 1]func(e effect, in view) output {
	return [...]func(e effect, in view) output{
		api.Convolve:  effect.convolve,
		api.Median:    effect.median,
		api.Erode:     effect.erode,
		api.Dilate:    effect.dilate,
		api.Tone:      effect.tone,
		api.Invert:    effect.invert,
		api.Threshold: effect.threshold,
		api.Offset:    effect.offset,
	}
}

// convolve adds up the window with the weights of the kernel. Colours count as much as their pixels are opaque.
func (e effect) convolve(in view) output {
	return func(at api.Point) api.Pixel {
		var r, g, b, a int
		for i, q := range in.window(at, e.Radius) {
			weight := e.Kernel[i] * int(q.A)
			r, g, b, a = r+weight*int(q.R), g+weight*int(q.G), b+weight*int(q.B), a+weight
		}
		alpha := limitedQuotient(a, e.Div)
		// The sum of the weights is positive if the alpha is, so that it can be a divisor.
		if alpha == 0 {
			return api.Pixel{}
		}
		return api.Pixel{R: limitedQuotient(r, a), G: limitedQuotient(g, a), B: limitedQuotient(b, a), A: alpha}
	}
}

// median chooses the middle one of the values in the window, of which there is an odd number.
func (e effect) median(in view) output {
	return e.choose(in, func(values []uint8) uint8 {
		slices.Sort(values)
		return values[len(values)/2]
	})
}

// erode chooses the least value in the window.
func (e effect) erode(in view) output {
	return e.choose(in, slices.Min[[]uint8])
}

// dilate chooses the greatest value in the window.
func (e effect) dilate(in view) output {
	return e.choose(in, slices.Max[[]uint8])
}

// tone applies the curve to the colour channels.
func (e effect) tone(in view) output {
	return in.recolour(remember(func(c uint8) uint8 {
		return limitedQuotient(curve.At(e.Curve, wideScale*int(c)), wideScale)
	}))
}

// invert makes a negative.
func (e effect) invert(in view) output {
	return in.recolour(func(c uint8) uint8 { return full - c })
}

// threshold divides the colours into white and black ones by the means of their channels.
func (e effect) threshold(in view) output {
	return func(at api.Point) api.Pixel {
		p := in.pixel(at)
		if int(p.R)+int(p.G)+int(p.B) >= 3*e.Value {
			return api.Pixel{R: full, G: full, B: full, A: p.A}
		}
		return api.Pixel{A: p.A}
	}
}

// offset moves the image.
func (e effect) offset(in view) output {
	return func(at api.Point) api.Pixel {
		return in.pixel(api.Point{X: at.X - e.Radius, Y: at.Y - e.Value})
	}
}

// choose returns the image that has, in each channel by itself, one of the values in the window. The function that picks it may reorder them.
func (e effect) choose(in view, pick func(values []uint8) uint8) output {
	size := windowSize(e.Radius)
	r, g, b, a := make([]uint8, size), make([]uint8, size), make([]uint8, size), make([]uint8, size)
	return func(at api.Point) api.Pixel {
		for i, q := range in.window(at, e.Radius) {
			r[i], g[i], b[i], a[i] = q.R, q.G, q.B, q.A
		}
		return api.Pixel{R: pick(r), G: pick(g), B: pick(b), A: pick(a)}
	}
}

// remember returns a function that calls f only once for each argument. A curve is checked as a whole whenever it is evaluated, so that evaluating it for each pixel would take long.
func remember(f func(c uint8) uint8) func(c uint8) uint8 {
	var known [full + 1]bool
	var results [full + 1]uint8
	return func(c uint8) uint8 {
		if !known[c] {
			known[c], results[c] = true, f(c)
		}
		return results[c]
	}
}

// limitedQuotient returns n / d for a positive d, rounded to the nearest integer, halves upwards, and limited to the values of a channel.
func limitedQuotient(n, d int) uint8 {
	return uint8(min(max(rect.Floor(2*n+d, 2*d), 0), full))
}
