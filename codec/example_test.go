package codec_test

import (
	"fmt"

	"gouache/api"
	"gouache/codec"
	"gouache/raster"
)

// The example of README.md: a raster of two tiles, one of which is read.
func Example() {
	red, grey := api.Pixel{R: 255, A: 255}, api.TileAt{Pos: api.TilePos{X: 3, Y: 1}}
	for i := range grey.Tile {
		value := uint8(100 + 3*(i%8))
		grey.Tile[i] = api.Pixel{R: value, G: value, B: value, A: 255}
	}
	r, _ := raster.Set(api.Raster{}, -1, -1, red)
	r, _ = raster.Put(r, grey.Pos, grey.Tile)
	s, err := codec.Pack(r)
	fmt.Println(len(s), err)

	f, err := codec.Open(s)
	fmt.Println(f.Count(), f.Bounds(), err)
	preview, err := f.Preview(api.TilePos{X: 0, Y: 0})
	fmt.Println(preview[11], f.Decoded(), err)
	part, err := f.Read(api.Rect{X0: 28, Y0: 8, X1: 40, Y1: 16})
	fmt.Println(raster.Bounds(part), f.Decoded(), err)
	t, err := f.Tile(grey.Pos)
	fmt.Println(t == grey.Tile, f.Decoded(), err)
	all, err := f.All()
	fmt.Println(raster.Equal(all, r), f.Decoded(), err)

	damaged := s[:len(s)-1] + "?"
	fmt.Println(codec.Check(s), codec.Check(damaged))
	// Output:
	// 114 gouache: error 0
	// 2 {-8 -8 32 16} gouache: error 0
	// {111 111 111 255} 0 gouache: error 0
	// {28 8 32 16} 1 gouache: error 0
	// true 2 gouache: error 0
	// true 4 gouache: error 0
	// gouache: error 0 gouache: error 12
}
