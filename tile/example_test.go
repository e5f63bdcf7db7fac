package tile_test

import (
	"fmt"

	"gouache/api"
	"gouache/tile"
)

// The example of README.md: a pixel that is turned, a tile that is composited and halved, and its bytes.
func ExampleHalve() {
	blue, red := api.Pixel{B: 255, A: 255}, api.Pixel{R: 255, A: 255}
	t := tile.Set(tile.Fill(blue), 1, 0, red)
	fmt.Println(tile.Get(tile.Turn(t), 7, 1))
	var coverage [api.TilePixels]uint8
	coverage[0] = 51
	t = tile.Over(t, tile.Fill(red), api.Normal, coverage)
	fmt.Println(tile.Get(t, 0, 0))
	half := tile.Halve(t, api.Tile{}, api.Tile{}, api.Tile{})
	fmt.Println(tile.Get(half, 0, 0), tile.Get(half, 4, 0))
	same, err := tile.Read(tile.Bytes(t))
	fmt.Println(same == t, err, len(tile.Key(t)))
	// Output:
	// {255 0 0 255}
	// {51 0 204 255}
	// {77 0 179 255} {0 0 0 0}
	// true gouache: error 0 32
}
