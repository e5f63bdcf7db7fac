package pixel

import "gouache/api"

// maxTimes is the greatest multiplicity with which a single call adds a pixel to a Mean. It bounds the sums of 2^20 calls to 52 bits.
const maxTimes = 1 << 16

// Mean accumulates pixels for their mean, in which a colour counts as much as its pixel is opaque. The zero value is empty.
type Mean struct {
	count, alpha int    // the number of the pixels, and the sum of their alphas
	colour       [3]int // the sum of each colour channel, multiplied by the alpha
}

// Add adds p n times. It does nothing if n is below 1.
func (m *Mean) Add(p api.Pixel, n int) {
	if m == nil || n < 1 {
		return
	}
	n = min(n, maxTimes)
	alpha := n * int(p.A)
	m.count += n
	m.alpha += alpha
	for i, value := range [...]uint8{p.R, p.G, p.B} {
		m.colour[i] += alpha * int(value)
	}
}

// Pixel returns the mean of the pixels that have been added so far.
func (m *Mean) Pixel() api.Pixel {
	if m == nil || m.count == 0 {
		return api.Pixel{}
	}
	alpha := nearest(m.count)(m.alpha)
	// The sum of the alphas may be greater than 0 even so, but the colour is not to be seen.
	if alpha == 0 {
		return api.Pixel{}
	}
	rounded := nearest(m.alpha)
	return api.Pixel{
		R: uint8(rounded(m.colour[0])),
		G: uint8(rounded(m.colour[1])),
		B: uint8(rounded(m.colour[2])),
		A: uint8(alpha),
	}
}
