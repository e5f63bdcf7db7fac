package doc_test

import (
	"slices"
	"testing"

	"gouache/api"
	"gouache/doc"
)

// scribble changes every element of the lists of a layer, also those beyond their ends.
func scribble(l api.Layer) {
	for _, list := range [][]int{l.Kids, l.Filter.Kernel, l.Filter.Curve} {
		list = list[:cap(list)]
		for i := range list {
			list[i] = -77
		}
	}
	points := l.Path[:cap(l.Path)]
	for i := range points {
		points[i] = api.Point{X: -77, Y: -77}
	}
	for _, tiles := range [][]api.TileAt{l.Content.Tiles, l.Mask.Tiles} {
		tiles = tiles[:cap(tiles)]
		for i := range tiles {
			tiles[i] = api.TileAt{Pos: api.TilePos{X: -77}}
		}
	}
}

// scribbleDoc does the same to a document.
func scribbleDoc(d api.Doc) {
	for _, s := range d.Spaces {
		for _, c := range s.Curve {
			c = c[:cap(c)]
			for i := range c {
				c[i] = -77
			}
		}
	}
	for i := range d.Layers {
		scribble(d.Layers[i])
	}
	spaces, layers := d.Spaces[:cap(d.Spaces)], d.Layers[:cap(d.Layers)]
	for i := range spaces {
		spaces[i] = api.Space{}
	}
	for i := range layers {
		layers[i] = api.Layer{ID: -77}
	}
}

// roomy returns a document whose lists have room for more, which is not to be used.
func roomy(d api.Doc) api.Doc {
	d = copied(d)
	d.Spaces, d.Layers = slices.Grow(d.Spaces, 9), slices.Grow(d.Layers, 9)
	for i := range d.Layers {
		l := &d.Layers[i]
		l.Kids, l.Path = slices.Grow(l.Kids, 9), slices.Grow(l.Path, 9)
		l.Filter.Kernel, l.Filter.Curve = slices.Grow(l.Filter.Kernel, 9), slices.Grow(l.Filter.Curve, 9)
		l.Content.Tiles, l.Mask.Tiles = slices.Grow(l.Content.Tiles, 2), slices.Grow(l.Mask.Tiles, 2)
	}
	return d
}

// allFields returns a document that is not valid, of layers with all fields.
func allFields() api.Doc {
	return api.Doc{Spaces: []api.Space{square()}, Root: 1, Next: 5, Layers: []api.Layer{full(), group(2, 1), full(), group(4, 2, 4)}}
}

// R3: the layers that Layer returns.
func TestLayersShareNothing(t *testing.T) {
	for _, d := range []api.Doc{sample(), allFields(), roomy(sample())} {
		before := copied(d)
		for _, want := range before.Layers {
			l, _ := doc.Layer(d, want.ID)
			again, _ := doc.Layer(d, want.ID)
			scribble(l)
			if !isSame(before, d) {
				t.Fatalf("a change of layer %d changes the document", want.ID)
			}
			scribbleDoc(d)
			if !isSameLayer(again, before.Layers[indexOf(before, want.ID)]) {
				t.Fatalf("a change of the document changes layer %d", want.ID)
			}
			d = roomy(before)
		}
	}
}

// R3: the documents that With returns, for layers of all kinds.
func TestDocumentsShareNothing(t *testing.T) {
	for _, x := range sample().Layers {
		d, l := roomy(sample()), copiedLayer(x)
		l.Kids, l.Mask, l.HasMask = slices.Grow(l.Kids, 3), row(2), true
		before, layerBefore := copied(d), copiedLayer(l)
		got, err := doc.With(d, l)
		again, _ := doc.With(d, l)
		if err != api.OK {
			t.Fatalf("With returns the error %d", err)
		}
		want := copied(got)
		scribbleDoc(got)
		if !isSame(before, d) || !isSameLayer(layerBefore, l) {
			t.Errorf("a change of the result changes the arguments (layer %d)", x.ID)
		}
		scribbleDoc(d)
		scribble(l)
		if !isSame(again, want) {
			t.Errorf("a change of the arguments changes the result (layer %d)", x.ID)
		}
	}
}

// R3: the lists of a result share nothing with one another, even if those of the arguments do.
func TestListsOfDocumentsShareNothing(t *testing.T) {
	curve, points, tiles := square().Curve[0], path(0, 0, 5, 5, 9, 0), row(2)
	s := square()
	s.Curve = [3]api.Curve{curve, curve, curve}
	first, second, third, toned := paint(2), paint(3), shape(4), adjust(6)
	first.Content, first.Mask, second.Content, second.Mask = tiles, tiles, tiles, tiles
	first.HasMask, second.HasMask = true, true
	third.Path, toned.Filter = points, api.Filter{Kind: api.Tone, Curve: curve}
	fourth := third
	fourth.ID = 5
	d := docOf(group(1, 2, 3, 4, 5, 6), first, second, third, fourth, toned)
	d.Spaces = []api.Space{s, s}
	got, err := doc.With(d, second)
	if err != api.OK {
		t.Fatalf("With returns the error %d", err)
	}
	got.Spaces[0].Curve[1][2], got.Layers[1].Content.Tiles[0].Pos.X, got.Layers[3].Path[0].X = 1, 2, 3
	want := copied(d)
	want.Spaces[0].Curve[1][2], want.Layers[1].Content.Tiles[0].Pos.X, want.Layers[3].Path[0].X = 1, 2, 3
	if !isSame(got, want) {
		t.Error("a change of one list changes another one")
	}
	l := api.Layer{ID: 7, Kids: curve, Filter: api.Filter{Kernel: curve, Curve: curve}, Content: tiles, Mask: tiles}
	single, _ := doc.Layer(docOf(l), 7)
	single.Kids[0], single.Mask.Tiles[1].Pos.Y = -5, -6
	if single.Filter.Kernel[0] != 0 || single.Filter.Curve[0] != 0 || single.Content.Tiles[1].Pos.Y != 0 {
		t.Error("the lists of a layer share memory")
	}
}

// R3: the list that Order returns, and the layers that Read, New and Default return.
func TestOtherResultsShareNothing(t *testing.T) {
	for _, d := range []api.Doc{sample(), roomy(flat(9)), nested(4)} {
		before := copied(d)
		order := doc.Order(d)
		want := slices.Clone(order)
		for i := range order {
			order[i] = -77
		}
		if !isSame(before, d) || !slices.Equal(doc.Order(d), want) {
			t.Errorf("a change of the order changes the document (%s)", shownDoc(before))
		}
	}
	s := doc.Head(full())
	first, _ := doc.Read(s)
	second, _ := doc.Read(s)
	want := copiedLayer(second)
	scribble(first)
	if !isSameLayer(second, want) || doc.Head(second) != s {
		t.Error("two layers that are read share memory")
	}
	a, b := doc.New(), doc.New()
	scribbleDoc(a)
	if !isSame(b, doc.New()) || b.Layers[0].ID != 1 {
		t.Error("two new documents share memory")
	}
}

// R3: elements beyond the ends of the arguments' lists stay as they are.
func TestRoomIsNotUsed(t *testing.T) {
	d := roomy(sample())
	beyond := func() []api.Layer { return d.Layers[len(d.Layers):cap(d.Layers)] }
	for i := range beyond() {
		beyond()[i] = paint(100 + i)
	}
	kids := at(&d, 5).Kids
	for i := range kids[len(kids):cap(kids)] {
		kids[len(kids):cap(kids)][i] = 100 + i
	}
	for _, l := range sample().Layers {
		if _, err := doc.With(d, l); err != api.OK {
			t.Fatalf("With returns the error %d", err)
		}
		doc.Check(d)
		doc.Order(d)
		doc.Head(l)
		doc.Layer(d, l.ID)
	}
	for i := range beyond() {
		if beyond()[i].ID != 100+i {
			t.Errorf("the room for layer %d is used", i)
		}
	}
	for i, kid := range kids[len(kids):cap(kids)] {
		if kid != 100+i {
			t.Errorf("the room for kid %d is used", i)
		}
	}
}

// R4: the same calls return the same results, whatever was called in between.
func TestCallsKeepNoState(t *testing.T) {
	d := sample()
	l, _ := doc.Layer(d, 7)
	order, s, k := doc.Order(d), doc.Head(l), doc.Key(l)
	for seed := range 100 {
		other := scattered(seed)
		doc.Check(other)
		doc.Order(other)
		doc.With(other, l)
		doc.Read(s[seed%len(s):])
	}
	err, id := doc.Check(d)
	if !slices.Equal(doc.Order(d), order) || doc.Head(l) != s || doc.Key(l) != k || err != api.OK || id != 0 || doc.Depth(d, 5) != 4 || !doc.Uses(d, 3, 12) {
		t.Error("a repeated call returns something else")
	}
}
