package colour

import (
	"slices"

	"gouache/api"
)

// Convert converts a colour of the first space of a chain to each of the following spaces in turn.
func Convert(chain []api.Space, c api.Colour) (api.Colour, api.Errno) {
	if err := check(chain); err != api.OK {
		return api.Colour{}, err
	}
	return convert(chain, c), api.OK
}

// Pixel converts a pixel along a chain, and keeps its alpha.
func Pixel(chain []api.Space, p api.Pixel) (api.Pixel, api.Errno) {
	if err := check(chain); err != api.OK {
		return api.Pixel{}, err
	}
	if p.A == 0 {
		return api.Pixel{}, api.OK
	}
	return Narrow(convert(chain, Wide(p)), int(p.A)), api.OK
}

// check returns the error of converting anything along a chain.
func check(chain []api.Space) api.Errno {
	invalid := func(s api.Space) bool { return !Valid(s) }
	switch {
	case len(chain) == 0:
		return api.ErrArg
	case len(chain) > api.MaxChain:
		return api.ErrMany
	case slices.ContainsFunc(chain, invalid):
		return api.ErrSpace
	}
	return api.OK
}

// convert is Convert for a valid chain.
func convert(chain []api.Space, c api.Colour) api.Colour {
	for i, next := range chain[1:] {
		c = fromReference(next, toReference(chain[i], c))
	}
	return c
}

// convertAll converts colours along a valid chain, and clamps the results to the gamut.
func convertAll(chain []api.Space, colours []api.Colour) []api.Colour {
	converted := make([]api.Colour, 0, len(colours))
	for _, c := range colours {
		converted = append(converted, clampToGamut(convert(chain, c)))
	}
	return converted
}
