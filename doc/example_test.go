package doc_test

import (
	"fmt"

	"gouache/api"
	"gouache/doc"
)

// The example of README.md: a document of a shape in a group, an adjustment layer, and a clone of the group.
func Example() {
	frame, triangle, invert, again := doc.Default(api.Group), doc.Default(api.Shape), doc.Default(api.Adjust), doc.Default(api.Clone)
	frame.ID, triangle.ID, invert.ID, again.ID = 2, 3, 4, 5
	triangle.Path, triangle.Fill = []api.Point{{X: 0, Y: 0}, {X: 4, Y: 0}, {X: 0, Y: 4}}, api.Pixel{R: 255, A: 255}
	frame.Kids, again.Of = []int{3}, 2

	d := doc.New()
	d.Layers = append(d.Layers, frame, triangle, invert, again)
	d.Layers[0].Kids, d.Next = []int{2, 4, 5}, 6
	fmt.Println(doc.Check(d))

	order := doc.Order(d)
	depth := doc.Depth(d, 1)
	shows, inverts := doc.Uses(d, 5, 3), doc.Uses(d, 4, 5)
	parent, index, ok := doc.Parent(d, 5)
	fmt.Println(order, depth, shows, inverts, parent, index, ok)

	again.Of = 1
	_, err := doc.With(d, again)
	fmt.Println(err)
	again.Of, again.Name = 3, "copy"
	changed, err := doc.With(d, again)
	l, ok := doc.Layer(changed, 5)
	fmt.Println(l.Name, ok, doc.Equal(changed, d), err)

	s := doc.Head(l)
	same, err := doc.Read(s)
	fmt.Println(len(s), same.Of, doc.Key(same) == doc.Key(l), err)
	// Output:
	// gouache: error 0 0
	// [2 3 4 5] 3 true false 1 2 true
	// gouache: error 42
	// copy true false gouache: error 0
	// 32 3 true gouache: error 0
}
