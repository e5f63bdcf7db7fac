package rect

import "gouache/api"

// Scale returns the rectangle of the pixels at full resolution that r covers at a zoom level.
func Scale(r api.Rect, zoom int) api.Rect {
	if Empty(r) || !validZoom(zoom) {
		return api.Rect{}
	}
	factor := 1 << zoom
	multiply := func(side int) int { return side * factor }
	return moveSides(r, multiply, multiply)
}

// Shrink returns the smallest rectangle at a zoom level that covers r.
func Shrink(r api.Rect, zoom int) api.Rect {
	if Empty(r) || !validZoom(zoom) {
		return api.Rect{}
	}
	factor := 1 << zoom
	down := func(side int) int { return Floor(side, factor) }
	up := func(side int) int { return Ceil(side, factor) }
	return moveSides(r, down, up)
}

// Floor returns a / b rounded down, and 0 if b is 0.
func Floor(a, b int) int {
	if b == 0 {
		return 0
	}
	quotient := a / b
	if inexact := a%b != 0; inexact && differInSign(a, b) {
		quotient--
	}
	return quotient
}

// Ceil returns a / b rounded up, and 0 if b is 0.
func Ceil(a, b int) int {
	if b == 0 {
		return 0
	}
	// Adding b - 1 before a division would wrap around for great a.
	quotient := a / b
	if inexact := a%b != 0; inexact && !differInSign(a, b) {
		quotient++
	}
	return quotient
}

// validZoom reports whether there is such a zoom level.
func validZoom(zoom int) bool {
	return 0 <= zoom && zoom <= api.MaxZoom
}

// moveSides returns the rectangle with low applied to the left and upper sides of r, and high to the right and lower sides.
func moveSides(r api.Rect, low, high func(side int) int) api.Rect {
	return api.Rect{X0: low(r.X0), Y0: low(r.Y0), X1: high(r.X1), Y1: high(r.Y1)}
}

// differInSign reports whether exactly one of a and b is negative.
func differInSign(a, b int) bool {
	return (a < 0) != (b < 0)
}
