package selection_test

import (
	"fmt"

	"gouache/api"
	"gouache/raster"
	"gouache/selection"
)

// The example of README.md: a triangle is filled, made a set of pixels and polygons again, and combined with other masks.
func Example() {
	black := api.Pixel{A: 255}
	triangle := []api.Point{{X: 0, Y: 0}, {X: 4, Y: 0}, {X: 0, Y: 2}}
	bounds := selection.Bounds(triangle)
	c := selection.Cover(triangle, 3, 0)
	m, err := selection.Fill(triangle, black)
	fmt.Println(bounds, c, raster.Get(m, 0, 0), raster.Get(m, 2, 0), err)

	paths := selection.Outline(m, 128)
	hard, err := selection.Inside(paths, black)
	fmt.Println(paths, raster.Get(hard, 2, 0), err)

	hole := []api.Point{{X: 1, Y: 0}, {X: 2, Y: 0}, {X: 2, Y: 1}, {X: 1, Y: 1}}
	pierced, err := selection.Inside(append(paths, hole), black)
	fmt.Println(selection.Outline(pierced, 1), err)

	rest, err := selection.Inverse(m, bounds)
	all, some, soft := selection.Union(hard, rest), selection.Common(hard, rest), selection.Minus(hard, rest)
	fmt.Println(raster.Get(rest, 2, 0), raster.Get(rest, 3, 0), err)
	fmt.Println(raster.Get(all, 2, 0), raster.Get(all, 3, 0), raster.Get(some, 2, 0), raster.Get(soft, 2, 0))

	long, err := selection.Fill([]api.Point{{X: 0, Y: 0}, {X: 300, Y: 0}, {X: 0, Y: 2}}, black)
	fmt.Println(long, err)
	// Output:
	// {0 0 4 2} 64 {0 0 0 255} {0 0 0 191} gouache: error 0
	// [[{0 0} {3 0} {3 1} {1 1} {1 2} {0 2}]] {0 0 0 255} gouache: error 0
	// [[{0 0} {1 0} {1 2} {0 2}] [{2 0} {3 0} {3 1} {2 1}]] gouache: error 0
	// {0 0 0 64} {0 0 0 191} gouache: error 0
	// {0 0 0 255} {0 0 0 191} {0 0 0 64} {0 0 0 191}
	// {[]} gouache: error 45
}
