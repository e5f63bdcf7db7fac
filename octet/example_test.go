package octet_test

import (
	"fmt"

	"gouache/octet"
)

// The example of README.md: a record that ends with its checksum.
func ExampleReader() {
	record := octet.Put(258, 2) + octet.Var(300) + octet.Text("ab")
	record += octet.Put(int(octet.Sum(record)), 4)

	r := octet.Read(record)
	a, b, c := r.Num(2), r.Var(), r.Text()
	intact := octet.Sum(record[:r.At()]) == uint32(r.Num(4)) && !r.Failed()
	fmt.Println(a, b, c, intact, r.Left())
	// Output: 258 300 ab true 0
}
