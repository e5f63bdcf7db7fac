package pixel

// The blend modes, with the numbers that package api gives them.
const (
	normal = iota
	multiply
	screen
	overlay
	darken
	lighten
	dodge
	burn
	hardLight
	softLight
	difference
	exclusion
	add
	subtract
	average
	negation
	modeCount
)

// names holds the name of each mode.
var names = [modeCount]string{
	normal:     "normal",
	multiply:   "multiply",
	screen:     "screen",
	overlay:    "overlay",
	darken:     "darken",
	lighten:    "lighten",
	dodge:      "dodge",
	burn:       "burn",
	hardLight:  "hardlight",
	softLight:  "softlight",
	difference: "difference",
	exclusion:  "exclusion",
	add:        "add",
	subtract:   "subtract",
	average:    "average",
	negation:   "negation",
}

// Name returns the name of a blend mode, or the empty string if there is no such mode.
func Name(mode int) string {
	if !isMode(mode) {
		return ""
	}
	return names[mode]
}

// Mode returns the blend mode with this name.
func Mode(name string) (int, bool) {
	for mode, known := range names {
		if known == name {
			return mode, true
		}
	}
	return 0, false
}

// Blend applies a blend mode to the channel values of a backdrop and of a source. What is no mode counts as normal.
func Blend(mode, back, src int) int {
	return blendFunction(mode)(clamp(back), clamp(src))
}

// isMode reports whether there is a mode with this number.
func isMode(mode int) bool {
	return mode >= 0 && mode < modeCount
}

// blendFunction returns the function of a mode. It takes the value of the backdrop first, and both values must be in range.
func blendFunction(mode int) func(b, s int) int {
	if !isMode(mode) {
		mode = normal
	}
	return [modeCount]func(b, s int) int{
		normal:     func(_, s int) int { return s },
		multiply:   product,
		screen:     blendScreen,
		overlay:    func(b, s int) int { return blendHardLight(s, b) },
		darken:     func(b, s int) int { return min(b, s) },
		lighten:    func(b, s int) int { return max(b, s) },
		dodge:      blendDodge,
		burn:       blendBurn,
		hardLight:  blendHardLight,
		softLight:  blendSoftLight,
		difference: distance,
		exclusion:  func(b, s int) int { return max(0, b+s-2*product(b, s)) },
		add:        func(b, s int) int { return min(full, b+s) },
		subtract:   func(b, s int) int { return max(0, b-s) },
		average:    func(b, s int) int { return nearest(2)(b + s) },
		negation:   func(b, s int) int { return full - distance(full, b+s) },
	}[mode]
}

// blendScreen multiplies what is missing from white.
func blendScreen(b, s int) int {
	return b + s - product(b, s)
}

// blendHardLight multiplies by a dark source and screens with a light one.
func blendHardLight(b, s int) int {
	// Twice a source below 128 is in range.
	if s < 128 {
		return product(b, 2*s)
	}
	return blendScreen(b, 2*s-full)
}

// blendDodge lightens the backdrop, without bound as the source approaches white; black stays black.
func blendDodge(b, s int) int {
	switch {
	case b == 0:
		return 0
	case s == full:
		return full
	}
	return min(full, full*b/(full-s))
}

// blendBurn darkens the backdrop, without bound as the source approaches black; white stays white.
func blendBurn(b, s int) int {
	switch {
	case b == full:
		return full
	case s == 0:
		return 0
	}
	return full - min(full, full*(full-b)/s)
}

// blendSoftLight goes from the product of both values to their screen as the backdrop becomes lighter.
func blendSoftLight(b, s int) int {
	// The bound is part of the formula, although no two values need it.
	return min(full, product(full-b, product(b, s))+product(b, blendScreen(b, s)))
}

// distance returns the absolute value of x - y.
func distance(x, y int) int {
	return max(x-y, y-x)
}
