package colour

import (
	"gouache/api"
	"gouache/rect"
)

// ratio is num / den, with num from 0 on and den from 1 on.
type ratio struct{ num, den int }

// Clip maps a colour into the gamut, on the line to the grey of equal mean, no farther than needed.
func Clip(c api.Colour) api.Colour {
	c = clampChannels(c, -limit, limit)
	if inGamut(c) {
		return c
	}
	grey := min(max(rect.Floor(c[0]+c[1]+c[2]+1, 3), 0), top)
	kept := keptRatio(c, grey)
	return mapChannels(c, func(_, v int) int { return grey + (v-grey)*kept.num/kept.den })
}

// keptRatio returns which part of the distance from the grey all channels can keep: the least one that a channel out of range allows.
func keptRatio(c api.Colour, grey int) ratio {
	least := ratio{1, 1}
	for _, v := range c {
		allowed := allowedRatio(v, grey)
		if allowed.num*least.den < least.num*allowed.den {
			least = allowed
		}
	}
	return least
}

// allowedRatio returns which part of the distance from the grey leads from there to the gamut's end, or all of it for a channel in range.
func allowedRatio(v, grey int) ratio {
	switch {
	case v < 0:
		return ratio{grey, grey - v}
	case v > top:
		return ratio{top - grey, v - grey}
	}
	return ratio{1, 1}
}
