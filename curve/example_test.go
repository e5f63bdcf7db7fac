package curve_test

import (
	"fmt"

	"gouache/api"
	"gouache/curve"
)

// The example of README.md: a gamma curve, its inverse, and how far both together are from the identity.
func ExampleThen() {
	square, err := curve.Gamma(2, 1, 257)
	fmt.Println(err == api.OK, curve.At(square, 32768))
	fmt.Println(curve.Solve(square, 16384))
	root, _ := curve.Inverse(square, 257)
	both, _ := curve.Then(square, root, 257)
	fmt.Println(curve.Error(both, curve.Line(2)))
	// Output:
	// true 16384
	// 32768 true
	// 1039
}
