package digest_test

import (
	"fmt"

	"gouache/digest"
)

// The example of README.md: a digest in hexadecimal, and two lists with the same concatenation.
func ExampleJoin() {
	d := digest.Of("abc")
	same, err := digest.Parse(digest.Hex(d))
	fmt.Println(digest.Hex(d)[:8], same == d, err)
	fmt.Println(digest.Join("a", "bc") == digest.Join("ab", "c"))
	// Output:
	// ba7816bf true gouache: error 0
	// false
}
