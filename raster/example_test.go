package raster_test

import (
	"fmt"

	"gouache/api"
	"gouache/raster"
)

// The example of README.md: a pixel that is set, and an image that is cut out and pasted into another raster.
func ExamplePaste() {
	red := api.Pixel{R: 255, A: 255}
	r, err := raster.Set(api.Raster{}, -1, 9, red)
	fmt.Println(err, raster.Bounds(r), raster.Get(r, -1, 9))
	t := raster.Tile(r, api.TilePos{X: -1, Y: 1})
	r, err = raster.Put(r, api.TilePos{X: 0, Y: 1}, t)
	fmt.Println(err, raster.Bounds(r))
	m, err := raster.Image(r, api.Rect{X0: 6, Y0: 8, X1: 8, Y1: 10})
	fmt.Println(err, m.Pixels)
	other, err := raster.Paste(api.Raster{}, m)
	fmt.Println(err, raster.Changed(r, other), raster.Equal(other, raster.Crop(r, m.Rect)))
	gone, err := raster.Set(other, 7, 9, api.Pixel{})
	fmt.Println(err, len(gone.Tiles), raster.Key(gone) == raster.Key(api.Raster{}))
	// Output:
	// gouache: error 0 {-1 9 0 10} {255 0 0 255}
	// gouache: error 0 {-1 9 8 10}
	// gouache: error 0 [{0 0 0 0} {0 0 0 0} {0 0 0 0} {255 0 0 255}]
	// gouache: error 0 [{-1 1}] true
	// gouache: error 0 0 true
}
