package stroke_test

import (
	"fmt"

	"gouache/api"
	"gouache/raster"
	"gouache/stroke"
)

// The example of README.md: a stroke around a corner is painted, as a whole and in halves, moved, erased and serialized.
func Example() {
	s := api.Stroke{
		Points: []api.StrokePoint{{Pressure: 255}, {X: 100, Pressure: 255}, {X: 100, Y: 60, Pressure: 128}},
		Radius: 16, Spacing: 40, Phase: 10, Colour: api.Pixel{R: 255, A: 255},
	}
	dabs := stroke.Dabs(s)
	area := stroke.Area(s)
	c := stroke.Cover(dabs[0], 0, 0)
	r, err := stroke.Paint(api.Raster{}, s)
	fmt.Println(dabs, area, c, raster.Get(r, 0, 0), err)

	first, second, err := stroke.Split(s, 1)
	half, err := stroke.Paint(api.Raster{}, first)
	whole, err := stroke.Paint(half, second)
	fmt.Println(stroke.Dabs(second), raster.Equal(whole, r), err)

	moved := stroke.Shift(s, 1, 0)
	moved.Erase = true
	rest, err := stroke.Paint(r, moved)
	fmt.Println(moved.Points[0], raster.Get(rest, 1, 0), err)

	same, err := stroke.Read(stroke.Bytes(s))
	fmt.Println(same, len(stroke.Bytes(s)), err)

	s.Spacing = 0
	none, err := stroke.Paint(r, s)
	fmt.Println(stroke.Valid(s), none, err)
	// Output:
	// [{10 0 16} {50 0 16} {90 0 16} {100 30 12}] {-1 -1 8 3} 239 {255 0 0 239} gouache: error 0
	// [{100 30 12}] true gouache: error 0
	// {16 0 255} {255 0 0 6} gouache: error 0
	// {[{0 0 255} {100 0 255} {100 60 128}] 16 40 {255 0 0 255} false 10} 34 gouache: error 0
	// false {[]} gouache: error 1
}
