package predict

// Swap decorrelates the channels of a colour: y is their luma, u and v are differences of channels, which wrap around.
func Swap(r, g, b uint8) (y, u, v uint8) {
	u = r - b
	m := b + u/2
	v = g - m
	y = m + v/2
	return y, u, v
}

// Back undoes Swap: it takes the same steps from the last one to the first one, so that nothing is lost by rounding.
func Back(y, u, v uint8) (r, g, b uint8) {
	m := y - v/2
	g = v + m
	b = m - u/2
	r = b + u
	return r, g, b
}
