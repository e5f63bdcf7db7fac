package colour

import (
	"slices"

	"gouache/api"
	"gouache/curve"
	"gouache/rect"
)

const (
	one       = 4096    // 1 in the units of a matrix
	maxEntry  = 1 << 16 // the greatest absolute value of an entry of a matrix
	tolerance = 32768   // how far an entry of the product of both matrices may be off, in units of 1 / one^2
)

// Valid reports whether a colour space has valid curves, and matrices with entries in range that nearly undo each other.
func Valid(s api.Space) bool {
	invalid := func(c api.Curve) bool { return !curve.Valid(c) }
	// The product wraps around unless the entries are in range.
	return !slices.ContainsFunc(s.Curve[:], invalid) && validEntries(s.To) && validEntries(s.From) && nearlyUndoes(s.From, s.To)
}

// Device returns the identity space.
func Device() api.Space {
	identity := [9]int{one, 0, 0, 0, one, 0, 0, 0, one}
	return api.Space{
		Curve: [3]api.Curve{curve.Line(2), curve.Line(2), curve.Line(2)},
		To:    identity,
		From:  identity,
	}
}

// To converts a colour of a space to the reference space, without mapping it into the gamut.
func To(s api.Space, c api.Colour) api.Colour {
	if !Valid(s) {
		return api.Colour{}
	}
	return toReference(s, c)
}

// From converts a colour of the reference space to a space, into whose gamut it is mapped.
func From(s api.Space, c api.Colour) api.Colour {
	if !Valid(s) {
		return api.Colour{}
	}
	return fromReference(s, c)
}

// validEntries reports whether all entries of a matrix are in range.
func validEntries(m [9]int) bool {
	outOfRange := func(entry int) bool { return entry < -maxEntry || entry > maxEntry }
	return !slices.ContainsFunc(m[:], outOfRange)
}

// nearlyUndoes reports whether the product of a matrix and of one that is applied before it is nearly the identity.
func nearlyUndoes(from, to [9]int) bool {
	for row := range 3 {
		for column := range 3 {
			entry := from[3*row]*to[column] + from[3*row+1]*to[column+3] + from[3*row+2]*to[column+6]
			if row == column {
				entry -= one * one
			}
			if entry < -tolerance || entry > tolerance {
				return false
			}
		}
	}
	return true
}

// toReference is To for a valid space.
func toReference(s api.Space, c api.Colour) api.Colour {
	// A curve clamps its argument to less than the limit, so that it need not be clamped here.
	return multiply(s.To, mapChannels(c, func(i, v int) int { return curve.At(s.Curve[i], v) }))
}

// fromReference is From for a valid space.
func fromReference(s api.Space, c api.Colour) api.Colour {
	linear := Clip(multiply(s.From, clampChannels(c, -limit, limit)))
	return mapChannels(linear, func(i, v int) int {
		x, ok := curve.Solve(s.Curve[i], v)
		if !ok {
			return top
		}
		return x
	})
}

// multiply applies a matrix to a colour.
func multiply(m [9]int, c api.Colour) api.Colour {
	return mapChannels(c, func(i, _ int) int {
		return rect.Floor(m[3*i]*c[0]+m[3*i+1]*c[1]+m[3*i+2]*c[2]+one/2, one)
	})
}
