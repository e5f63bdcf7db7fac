package filter_test

import (
	"fmt"

	"gouache/api"
	"gouache/filter"
)

// The example of README.md: a white pixel is blurred and moved, and filters are asked about.
func Example() {
	blur := api.Filter{Kind: api.Convolve, Radius: 1, Kernel: []int{1, 1, 1, 1, 1, 1, 1, 1, 1}, Div: 9}
	at := api.Rect{X0: 0, Y0: 0, X1: 1, Y1: 1}
	need := filter.Need(blur, at)
	in := api.Image{Rect: need, Pixels: make([]api.Pixel, 9)}
	in.Pixels[4] = api.Pixel{R: 255, G: 255, B: 255, A: 255}
	out, err := filter.Apply(blur, in, at)
	fmt.Println(need, out, err)

	move := api.Filter{Kind: api.Offset, Radius: 2, Value: -1}
	spread := filter.Spread(move, at)
	moved, err := filter.Apply(move, in, spread)
	fmt.Println(spread, moved, err)

	none, err := filter.Apply(blur, in, need)
	fmt.Println(none, err)

	threshold := api.Filter{Kind: api.Threshold, Value: 128}
	fmt.Println(filter.Valid(threshold), filter.Local(threshold), filter.Local(blur), filter.Clear(blur))
	fmt.Printf("% x\n", filter.Bytes(threshold))
	// Output:
	// {-1 -1 2 2} {{0 0 1 1} [{255 255 255 28}]} gouache: error 0
	// {2 -1 3 0} {{2 -1 3 0} [{255 255 255 255}]} gouache: error 0
	// {{0 0 0 0} []} gouache: error 1
	// true true false true
	// 07 00 00 00 80 01 00
}
