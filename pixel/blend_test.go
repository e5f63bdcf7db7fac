package pixel_test

import (
	"testing"

	"gouache/api"
	"gouache/pixel"
)

// chapterBlend applies a mode to values in range, line by line as in the table of the chapter.
func chapterBlend(mode, b, s int) int {
	switch mode {
	case 1:
		return chapterM(b, s)
	case 2:
		return chapterS(b, s)
	case 3:
		return chapterBlend(8, s, b)
	case 4:
		return smaller(b, s)
	case 5:
		return b + s - smaller(b, s)
	case 6:
		return chapterDodge(b, s)
	case 7:
		// Burning is dodging in the negative.
		return 255 - chapterDodge(255-b, 255-s)
	case 8:
		if 2*s < 256 {
			return chapterM(b, 2*s)
		}
		return chapterS(b, 2*s-255)
	case 9:
		return smaller(255, chapterM(255-b, chapterM(b, s))+chapterM(b, chapterS(b, s)))
	case 10:
		return b + s - 2*smaller(b, s)
	case 11:
		return -smaller(0, 2*chapterM(b, s)-b-s)
	case 12:
		return smaller(255, b+s)
	case 13:
		return b - smaller(b, s)
	case 14:
		return b/2 + s/2 + (b%2+s%2+1)/2
	case 15:
		return smaller(b+s, 510-b-s)
	}
	return s
}

// chapterDodge divides with a remainder of at least 0.
func chapterDodge(b, s int) int {
	switch {
	case b == 0:
		return 0
	case s == 255:
		return 255
	}
	quotient := 0
	for quotient < 255 && (quotient+1)*(255-s) <= 255*b {
		quotient++
	}
	return quotient
}

// chapterM is M of the chapter; 255 is odd, so that no product is a half.
func chapterM(x, y int) int {
	if rest := x * y % 255; rest < 128 {
		return x * y / 255
	}
	return x*y/255 + 1
}

// chapterS is S of the chapter.
func chapterS(x, y int) int {
	return x + y - chapterM(x, y)
}

// smaller returns the smaller one of two integers.
func smaller(x, y int) int {
	if x < y {
		return x
	}
	return y
}

// P4.2 and P4.8: every mode, some that are none, and every pair of channel values; all results are in range.
func TestBlendOfAllChannelValues(t *testing.T) {
	for mode := -1; mode <= 16; mode++ {
		for b := range 256 {
			for s := range 256 {
				got, want := pixel.Blend(mode, b, s), chapterBlend(mode, b, s)
				if got != want || got < 0 || got > 255 {
					t.Fatalf("Blend(%d, %d, %d) is %d, not %d", mode, b, s, got, want)
				}
			}
		}
	}
}

// blended is a result of Blend.
type blended struct{ b, s, want int }

// P4.2: results in numbers, for every mode by its name in package api, with the values at which the formulas change.
func TestBlendOfSomeChannelValues(t *testing.T) {
	for mode, results := range map[int][]blended{
		api.Normal:     {{0, 255, 255}, {255, 0, 0}, {10, 20, 20}},
		api.Multiply:   {{100, 200, 78}, {255, 77, 77}, {0, 255, 0}, {128, 128, 64}, {1, 127, 0}, {1, 128, 1}},
		api.Screen:     {{100, 200, 222}, {0, 77, 77}, {255, 77, 255}, {1, 127, 128}, {1, 128, 128}},
		api.Overlay:    {{127, 200, 199}, {128, 200, 200}, {0, 99, 0}, {255, 99, 255}, {200, 100, 188}, {100, 200, 157}, {128, 0, 1}, {127, 255, 254}},
		api.Darken:     {{5, 9, 5}, {9, 5, 5}, {0, 255, 0}, {7, 7, 7}},
		api.Lighten:    {{5, 9, 9}, {9, 5, 9}, {0, 255, 255}, {7, 7, 7}},
		api.Dodge:      {{0, 255, 0}, {0, 0, 0}, {1, 255, 255}, {1, 254, 255}, {1, 253, 127}, {1, 0, 1}, {100, 55, 127}, {100, 54, 126}, {255, 0, 255}, {254, 0, 254}, {200, 100, 255}},
		api.Burn:       {{255, 0, 255}, {255, 255, 255}, {254, 0, 0}, {254, 1, 0}, {254, 2, 128}, {155, 200, 128}, {154, 201, 127}, {0, 255, 0}, {0, 254, 0}, {100, 255, 100}},
		api.HardLight:  {{200, 127, 199}, {200, 128, 200}, {99, 0, 0}, {99, 255, 255}, {100, 200, 188}, {200, 100, 157}, {0, 128, 1}, {0, 127, 0}, {255, 127, 254}, {255, 128, 255}},
		api.SoftLight:  {{255, 255, 255}, {0, 200, 0}, {128, 128, 128}, {100, 200, 134}, {200, 100, 191}, {100, 0, 39}, {255, 0, 255}, {100, 255, 161}},
		api.Difference: {{5, 9, 4}, {9, 5, 4}, {0, 255, 255}, {255, 255, 0}},
		api.Exclusion:  {{255, 255, 0}, {0, 9, 9}, {9, 0, 9}, {128, 128, 128}, {100, 200, 144}, {255, 1, 254}, {254, 254, 2}},
		api.Add:        {{200, 100, 255}, {200, 55, 255}, {200, 54, 254}, {0, 0, 0}},
		api.Subtract:   {{5, 9, 0}, {9, 5, 4}, {255, 0, 255}, {0, 255, 0}},
		api.Average:    {{5, 8, 7}, {8, 5, 7}, {0, 255, 128}, {0, 1, 1}, {254, 255, 255}, {0, 0, 0}, {255, 255, 255}},
		api.Negation:   {{100, 100, 200}, {200, 200, 110}, {0, 0, 0}, {255, 255, 0}, {255, 0, 255}, {128, 128, 254}, {127, 128, 255}},
	} {
		for _, x := range results {
			if got := pixel.Blend(mode, x.b, x.s); got != x.want {
				t.Errorf("Blend(%d, %d, %d) is %d, not %d", mode, x.b, x.s, got, x.want)
			}
		}
	}
}

// P4.2: a mode out of range is Normal.
func TestBlendWithAnotherMode(t *testing.T) {
	for _, mode := range []int{-1, -2, -16, 16, 17, 31, 32, 99, 256, 257, 1 << 32, 1<<32 + 1, -1 << 32, least, least + 1, greatest} {
		for _, x := range []blended{{10, 20, 20}, {20, 10, 10}, {255, 0, 0}, {0, 255, 255}, {128, -7, 0}, {128, 300, 255}} {
			if got := pixel.Blend(mode, x.b, x.s); got != x.want {
				t.Errorf("Blend(%d, %d, %d) is %d, not %d", mode, x.b, x.s, got, x.want)
			}
		}
	}
}

// P4.2: values out of range are clamped in every mode, before anything is computed.
func TestBlendClampsItsArguments(t *testing.T) {
	for n, clamped := range outOfRange() {
		for mode := range 16 {
			for x := range 256 {
				if got, want := pixel.Blend(mode, n, x), chapterBlend(mode, clamped, x); got != want {
					t.Errorf("Blend(%d, %d, %d) is %d, not %d", mode, n, x, got, want)
				}
				if got, want := pixel.Blend(mode, x, n), chapterBlend(mode, x, clamped); got != want {
					t.Errorf("Blend(%d, %d, %d) is %d, not %d", mode, x, n, got, want)
				}
			}
			for other, otherClamped := range outOfRange() {
				if got, want := pixel.Blend(mode, n, other), chapterBlend(mode, clamped, otherClamped); got != want {
					t.Errorf("Blend(%d, %d, %d) is %d, not %d", mode, n, other, got, want)
				}
			}
		}
	}
}

// P4.8: in these modes, the backdrop and the source can be exchanged.
func TestCommutativeModes(t *testing.T) {
	for _, mode := range []int{api.Multiply, api.Screen, api.Darken, api.Lighten, api.Difference, api.Exclusion, api.Add, api.Average, api.Negation} {
		for x := range 256 {
			for y := range x {
				if pixel.Blend(mode, x, y) != pixel.Blend(mode, y, x) {
					t.Errorf("mode %d is not commutative for %d and %d", mode, x, y)
				}
			}
		}
	}
}

// P4.7: the names of the table, by the numbers of package api, in both directions.
func TestNameAndMode(t *testing.T) {
	for mode, name := range map[int]string{
		api.Normal: "normal", api.Multiply: "multiply", api.Screen: "screen", api.Overlay: "overlay",
		api.Darken: "darken", api.Lighten: "lighten", api.Dodge: "dodge", api.Burn: "burn",
		api.HardLight: "hardlight", api.SoftLight: "softlight", api.Difference: "difference", api.Exclusion: "exclusion",
		api.Add: "add", api.Subtract: "subtract", api.Average: "average", api.Negation: "negation",
	} {
		if got := pixel.Name(mode); got != name {
			t.Errorf("Name(%d) is %q, not %q", mode, got, name)
		}
		if got, ok := pixel.Mode(name); got != mode || !ok {
			t.Errorf("Mode(%q) is %d, %v", name, got, ok)
		}
	}
}

// P4.7: numbers that are no modes have no name.
func TestNameOfAnotherMode(t *testing.T) {
	for _, mode := range []int{-1, -2, -15, -16, 16, 17, 31, 256, 1 << 32, 1<<32 + 3, -1 << 32, least, greatest} {
		if got := pixel.Name(mode); got != "" {
			t.Errorf("Name(%d) is %q", mode, got)
		}
	}
}

// P4.7: names that are not in the table, also those that differ from one only a little.
func TestModeOfAnotherName(t *testing.T) {
	for _, name := range []string{
		"", " ", "\x00", "0", "15", "Normal", "NORMAL", "normal ", " normal", "normal\x00", "norma", "ormal", "normall", "hard light", "hard-light", "HardLight", "hardlights", "soft", "overlay\n", "mix", "m\xffltiply", "ädd",
	} {
		if got, ok := pixel.Mode(name); got != 0 || ok {
			t.Errorf("Mode(%q) is %d, %v", name, got, ok)
		}
	}
}
