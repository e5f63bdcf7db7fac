package coder_test

import (
	"fmt"
	"strings"

	"gouache/coder"
)

// The example of README.md: a string, and single bits in a context of their own.
func Example() {
	s := strings.Repeat("gouache ", 100)
	encoded := coder.Encode(s)
	decoded, err := coder.Decode(encoded, len(s))
	fmt.Println(len(s), len(encoded), decoded == s, err)

	w := coder.NewWriter()
	for i := range 1000 {
		rare := 0
		if i%100 == 99 {
			rare = 1
		}
		w.Bit(7, rare)
	}
	r := coder.NewReader(w.Bytes())
	first := 0
	for r.Bit(7) == 0 {
		first++
	}
	fmt.Println(len(w.Bytes()), first, r.Used())
	// Output:
	// 800 382 true gouache: error 0
	// 18 99 7
}
