package affine_test

import (
	"fmt"

	"gouache/affine"
	"gouache/api"
)

// The example of README.md: a quarter turn and an enlargement, what they do to a rectangle, and where a pixel comes from.
func ExampleThen() {
	turn := api.Affine{B: -1, C: 10, D: 1, Den: 1}
	enlarge := api.Affine{A: 3, E: 3, Den: 2}
	a, err := affine.Then(turn, enlarge)
	fmt.Println(a, err)
	r := api.Rect{X0: 0, Y0: 0, X1: 4, Y1: 2}
	bounds, err := affine.Bounds(a, r)
	fmt.Println(bounds, err)
	p, err := affine.Source(a, api.Point{X: 12, Y: 5})
	fmt.Println(p, err)
	need, err := affine.Need(a, bounds)
	fmt.Println(need, err)
	undo, err := affine.Inverse(a)
	fmt.Println(undo, err)
	both, err := affine.Then(a, undo)
	fmt.Println(affine.Equal(both, affine.Identity()), err)
	// Output:
	// {0 -3 30 3 0 0 2} gouache: error 0
	// {12 0 15 6} gouache: error 0
	// {3 1} gouache: error 0
	// {0 0 4 2} gouache: error 0
	// {0 2 0 -2 0 30 3} gouache: error 0
	// true gouache: error 0
}
