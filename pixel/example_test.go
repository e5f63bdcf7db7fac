package pixel_test

import (
	"fmt"

	"gouache/api"
	"gouache/pixel"
)

// The example of README.md: a brush that covers a fifth of a pixel, a blend mode by its name, and a mean.
func ExampleOver() {
	blue, red := api.Pixel{B: 255, A: 255}, api.Pixel{R: 255, A: 255}
	fmt.Println(pixel.Over(blue, red, api.Normal, 51))
	mode, ok := pixel.Mode("screen")
	fmt.Println(mode == api.Screen, ok, pixel.Blend(mode, 100, 200))
	fmt.Println(pixel.Mix(red, api.Pixel{}, 51))
	var m pixel.Mean
	m.Add(red, 3)
	m.Add(api.Pixel{}, 1)
	fmt.Println(m.Pixel())
	// Output:
	// {51 0 204 255}
	// true true 222
	// {255 0 0 204}
	// {255 0 0 191}
}
