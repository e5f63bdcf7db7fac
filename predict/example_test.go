package predict_test

import (
	"fmt"

	"gouache/api"
	"gouache/predict"
)

// The example of README.md: a slope, the predictor that describes it best, and the way back.
func ExampleForward() {
	y, u, v := predict.Swap(255, 0, 0)
	fmt.Println(y, u, v)
	r, g, b := predict.Back(y, u, v)
	fmt.Println(r, g, b)
	var t api.Tile
	for i := range t {
		grey := uint8(100 + 3*(i%8) - 5*(i/8))
		t[i] = api.Pixel{R: grey, G: grey, B: grey, A: 255}
	}
	best := predict.Best(t)
	residuals, err := predict.Forward(t, best)
	fmt.Println(best, err, predict.Cost(residuals))
	fmt.Println([]byte(residuals[:16]))
	same, err := predict.Inverse(residuals, best)
	fmt.Println(same == t, err)
	// Output:
	// 191 255 129
	// 255 0 0
	// 5 gouache: error 0 157
	// [100 3 3 3 3 3 3 3 251 0 0 0 0 0 0 0]
	// true gouache: error 0
}
