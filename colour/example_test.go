package colour_test

import (
	"fmt"

	"gouache/api"
	"gouache/colour"
	"gouache/curve"
)

// The example of README.md: a chain of two spaces, a colour that is out of gamut, and a table that stands for the chain.
func ExampleSimplify() {
	square, _ := curve.Gamma(2, 1, 257)
	space := colour.Device()
	space.Curve = [3]api.Curve{square, square, square}
	chain := []api.Space{space, colour.Device()}
	p, err := colour.Pixel(chain, api.Pixel{R: 128, G: 255, A: 200})
	fmt.Println(p, err == api.OK)
	fmt.Println(colour.Clip(api.Colour{70000, 0, 0}))
	some := []api.Colour{{10000, 20000, 30000}, colour.Wide(p)}
	table, err := colour.Simplify(chain, some)
	fmt.Println(table.N, err == api.OK)
	exact, _ := colour.Convert(chain, some[0])
	near, _ := colour.Look(table, some[0])
	worst, _ := colour.Worst(chain, table, some)
	fmt.Println(exact, near, worst)
	// Output:
	// {64 255 0 200} true
	// [65535 2233 2233]
	// 8 true
	// [1525 6103 13732] [1610 6260 13950] 247
}
