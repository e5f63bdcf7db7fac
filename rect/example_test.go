package rect_test

import (
	"fmt"

	"gouache/api"
	"gouache/rect"
)

// The example of README.md: what is left of a rectangle, its tiles, and its image at a zoom level.
func ExampleMinus() {
	r := api.Rect{X0: -1, Y0: 0, X1: 9, Y1: 8}
	for _, part := range rect.Minus(r, api.Rect{X0: 0, Y0: 0, X1: 8, Y1: 8}) {
		fmt.Println(part)
	}
	for pos := range rect.Tiles(r) {
		fmt.Println(pos, rect.Of(pos))
	}
	fmt.Println(rect.Shrink(r, 1), rect.Scale(rect.Shrink(r, 1), 1))
	// Output:
	// {-1 0 0 8}
	// {8 0 9 8}
	// {-1 0} {-8 0 0 8}
	// {0 0} {0 0 8 8}
	// {1 0} {8 0 16 8}
	// {-1 0 5 4} {-2 0 10 8}
}
