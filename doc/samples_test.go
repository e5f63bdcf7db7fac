package doc_test

import (
	"math"
	"slices"

	"gouache/api"
	"gouache/colour"
	"gouache/curve"
)

const (
	least    = math.MinInt
	greatest = math.MaxInt
)

// numbers are integers of all sizes and of both signs.
var numbers = []int{0, 1, -1, 2, 127, 128, 255, 256, -128, -129, 16383, 16384, 1<<20 + 1, 1 << 32, -1 << 32, 1 << 62, greatest - 1, greatest, least, least + 1}

// of returns the pixel with these channels.
func of(r, g, b, a uint8) api.Pixel {
	return api.Pixel{R: r, G: g, B: b, A: a}
}

// path returns the points whose coordinates these are in turn.
func path(coordinates ...int) []api.Point {
	var points []api.Point
	for c := range slices.Chunk(coordinates, 2) {
		points = append(points, api.Point{X: c[0], Y: c[1]})
	}
	return points
}

// solid returns a raster of one tile of equal pixels.
func solid(x, y int, p api.Pixel) api.Raster {
	t := api.TileAt{Pos: api.TilePos{X: x, Y: y}}
	for i := range t.Tile {
		t.Tile[i] = p
	}
	return api.Raster{Tiles: []api.TileAt{t}}
}

// row returns a raster of n solid tiles beside one another.
func row(n int) api.Raster {
	var r api.Raster
	for i := range n {
		r.Tiles = append(r.Tiles, solid(i, 0, of(1, 2, 3, 4)).Tiles...)
	}
	return r
}

// invalidRasters returns rasters that are not valid, each for another reason.
func invalidRasters() []api.Raster {
	falling := row(2)
	slices.Reverse(falling.Tiles)
	return []api.Raster{falling, solid(0, 0, of(1, 0, 0, 0)), solid(0, 0, of(0, 0, 0, 0)), solid(8192, 0, of(0, 0, 0, 255)), solid(0, -8193, of(0, 0, 0, 255)), row(1025)}
}

// identity returns the placement that changes nothing.
func identity() api.Affine {
	return api.Affine{A: 1, E: 1, Den: 1}
}

// layer returns a visible, opaque layer of a kind.
func layer(id, kind int) api.Layer {
	return api.Layer{ID: id, Kind: kind, Opacity: 255}
}

// paint returns a paint layer with a placement, and without content.
func paint(id int) api.Layer {
	l := layer(id, api.Paint)
	l.Place = identity()
	return l
}

// group returns a group.
func group(id int, kids ...int) api.Layer {
	l := layer(id, api.Group)
	l.Kids = kids
	return l
}

// adjust returns an adjustment layer that inverts.
func adjust(id int) api.Layer {
	l := layer(id, api.Adjust)
	l.Filter = api.Filter{Kind: api.Invert}
	return l
}

// clone returns a clone of a layer.
func clone(id, of int) api.Layer {
	l := layer(id, api.Clone)
	l.Place, l.Of = identity(), of
	return l
}

// shape returns a triangle.
func shape(id int) api.Layer {
	l := layer(id, api.Shape)
	l.Path = path(0, 0, 4, 0, 0, 4)
	return l
}

// ofKind returns a layer of a kind with valid special fields, of which a clone shows a layer.
func ofKind(id, kind, of int) api.Layer {
	switch kind {
	case api.Paint:
		return paint(id)
	case api.Group:
		return group(id)
	case api.Adjust:
		return adjust(id)
	case api.Clone:
		return clone(id, of)
	}
	return shape(id)
}

// docOf returns the document of some layers, whose root is the first group, and whose next ID follows the greatest one.
func docOf(layers ...api.Layer) api.Doc {
	d := api.Doc{Root: 1, Next: 1, Layers: layers}
	for _, l := range slices.Backward(layers) {
		d.Next = max(d.Next, l.ID+1)
		if l.Kind == api.Group {
			d.Root = l.ID
		}
	}
	return d
}

// square returns a colour space with curves that are not straight.
func square() api.Space {
	s := colour.Device()
	for i := range s.Curve {
		s.Curve[i], _ = curve.Gamma(2, 1, 5+i)
	}
	return s
}

// sample returns a document with all kinds of layers, whose root is neither the first layer nor the first group with kids. Its layers are
//
//	5 group: 9 shape, 7 group (12 paint, 3 adjust, 11 clone of 2), 2 paint, 14 adjust, 20 clone of 7
func sample() api.Doc {
	d := api.Doc{Spaces: []api.Space{colour.Device(), square()}, Root: 5, Next: 23}
	content, masked, toned, filled := paint(2), adjust(3), adjust(14), shape(9)
	content.Name, content.Space, content.Content, content.Mode = "paint-2", 2, row(3), api.Screen
	content.Place = api.Affine{A: 3, B: -1, C: 70, D: 2, E: 5, F: -80, Den: 4}
	masked.Filter = api.Filter{Kind: api.Convolve, Radius: 1, Kernel: []int{0, -1, 0, -1, 5, -1, 0, -1, 0}, Div: 1}
	masked.HasMask, masked.Mask, masked.Hidden = true, solid(-1, 2, of(0, 0, 0, 100)), true
	toned.Filter = api.Filter{Kind: api.Tone, Curve: api.Curve{0, 1000, 65535}}
	filled.Fill, filled.Clip, filled.Opacity = of(9, 8, 7, 6), true, 77
	d.Layers = []api.Layer{content, masked, group(5, 9, 7, 2, 14, 20), group(7, 12, 3, 11), filled, clone(11, 2), paint(12), toned, clone(20, 7)}
	return d
}

// at returns the layer with an ID, to be changed.
func at(d *api.Doc, id int) *api.Layer {
	return &d.Layers[slices.IndexFunc(d.Layers, func(l api.Layer) bool { return l.ID == id })]
}

// with returns a document after changes, none of which the given document shares.
func with(d api.Doc, changes ...func(d *api.Doc)) api.Doc {
	d = copied(d)
	for _, change := range changes {
		change(&d)
	}
	return d
}

// nested returns a document of a root with n groups in one another.
func nested(n int) api.Doc {
	var layers []api.Layer
	for i := range n {
		layers = append(layers, group(i+1, i+2))
	}
	return docOf(append(layers, group(n+1))...)
}

// shown returns a document of a paint layer with n clones, each of which shows the layer before it.
func shown(n int) api.Doc {
	layers := []api.Layer{group(1, 2), paint(2)}
	for i := range n {
		layers[0].Kids = append(layers[0].Kids, i+3)
		layers = append(layers, clone(i+3, i+2))
	}
	return docOf(layers...)
}

// flat returns a document with n layers, all kids of the root, of which every second one is an adjustment layer.
func flat(n int) api.Doc {
	layers := []api.Layer{group(1)}
	for id := 2; id <= n; id++ {
		layers[0].Kids = append(layers[0].Kids, id)
		layers = append(layers, ofKind(id, 1+2*(id%2), 0))
	}
	return docOf(layers...)
}

// spaced returns a document with n colour spaces.
func spaced(n int) api.Doc {
	d := sample()
	d.Spaces = slices.Repeat([]api.Space{square()}, n)
	at(&d, 2).Space = n
	return d
}

// braided returns a document of depth 6 in which the number of ways to the layer at the bottom is multiplied with every level: a group of clones of a group of clones of a group of paint layers.
func braided() api.Doc {
	layers := []api.Layer{group(1, 2, 3, 4)}
	for _, g := range []int{2, 3, 4} {
		layers = append(layers, group(g))
	}
	id := 5
	for g := 1; g <= 3; g++ {
		for range 12 {
			layers[g].Kids = append(layers[g].Kids, id)
			if g == 3 {
				layers = append(layers, paint(id))
			} else {
				layers = append(layers, clone(id, g+2))
			}
			id++
		}
	}
	return docOf(layers...)
}

// validDocs returns valid documents of all kinds.
func validDocs() []api.Doc {
	return []api.Doc{
		docOf(group(1)), docOf(group(1<<20 - 1)), sample(), nested(1), nested(5), shown(0), shown(1), shown(5), flat(3), flat(40), spaced(8), braided(),
		docOf(paint(1), group(2, 1)), docOf(group(3, 8, 4), group(4), adjust(8)), docOf(group(1, 2, 3), clone(2, 3), group(3)),
		// Clones of groups, of clones, and of layers above and below.
		docOf(group(1, 2, 3, 6), clone(2, 3), group(3, 4, 5), clone(4, 6), shape(5), paint(6)),
		// Adjustment layers above everything else, below everything else, and above one another.
		docOf(group(1, 2, 3, 4, 5, 6), adjust(2), paint(3), group(4, 7, 8, 9), adjust(5), adjust(6), clone(7, 3), adjust(8), adjust(9)),
		with(sample(), func(d *api.Doc) { d.Spaces = append(d.Spaces, d.Spaces[0]); d.Next = 1 << 20 }),
		with(sample(), func(d *api.Doc) {
			at(d, 5).HasMask, at(d, 5).Hidden, at(d, 5).Clip, at(d, 5).Opacity = true, true, true, 0
		}),
	}
}

// scatter returns a function that returns integers from 0 to n - 1 without a visible order, others for each seed.
func scatter(seed int) func(n int) int {
	state := uint64(seed)*0x9E3779B97F4A7C15 + 1
	return func(n int) int {
		state = state*6364136223846793005 + 1442695040888963407
		return int(state >> 33 % uint64(n))
	}
}

// scattered returns a document of up to 14 layers without a visible order. Some of its clones may make cycles, and in half of the documents, some fields have other values, which may be valid or not.
func scattered(seed int) api.Doc {
	next := scatter(seed)
	d := api.Doc{}
	id := 0
	for range 1 + next(14) {
		id += 1 + next(3)
		d.Layers = append(d.Layers, api.Layer{ID: id})
	}
	d.Next = id + 1 + next(2)
	root := next(len(d.Layers))
	d.Root = d.Layers[root].ID
	for i := range d.Layers {
		kind := 1 + next(6)
		if kind == 6 || i == root {
			kind = api.Group
		}
		of := d.Layers[next(len(d.Layers))].ID
		d.Layers[i] = ofKind(d.Layers[i].ID, kind, of)
	}
	scatterKids(&d, root, next)
	for range next(2) * (1 + next(3)) {
		scatterDefect(&d, next)
	}
	return d
}

// scatterKids gives each layer but the root a place in a group that has a place already.
func scatterKids(d *api.Doc, root int, next func(n int) int) {
	groups := []int{root}
	for i := range d.Layers {
		if i == root {
			continue
		}
		g := &d.Layers[groups[next(len(groups))]]
		g.Kids = slices.Insert(g.Kids, next(len(g.Kids)+1), d.Layers[i].ID)
		if d.Layers[i].Kind == api.Group {
			groups = append(groups, i)
		}
	}
}

// scatterDefect gives a field of a document another value.
func scatterDefect(d *api.Doc, next func(n int) int) {
	l := &d.Layers[next(len(d.Layers))]
	other := d.Layers[next(len(d.Layers))].ID
	switch n := next(3) - 1; next(24) {
	case 0:
		d.Next += n
	case 1:
		l.ID += n
	case 2:
		d.Root = other
	case 3:
		l.Kind += n
	case 4:
		l.Name = "abcdefghijklm"[:12+max(n, 0)]
	case 5:
		l.Name = string([]byte{'a' + byte(26*n*n), '_'})
	case 6:
		l.Opacity = 255 + n
	case 7:
		l.Mode = 15 + n
	case 8:
		l.HasMask = !l.HasMask
	case 9:
		l.Mask, l.HasMask = row(1), n >= 0
	case 10:
		l.Place.Den += n
	case 11:
		l.Space += n
	case 12, 13:
		l.Of = other
	case 14:
		l.Filter.Value = n
	case 15:
		l.Fill.G = uint8(n + 1)
	case 16:
		l.Path = path(0, 0, -1, 2, 3, 4)[:2+max(n, 0)]
	case 17:
		l.Content = row(max(n, 0))
	case 18:
		l.Kids = append(l.Kids, other)
	case 19:
		l.Kids = l.Kids[:max(len(l.Kids)-1, 0)]
	case 20:
		d.Spaces = append(d.Spaces, square())
	case 21:
		l.Kids = append([]int{d.Next + n}, l.Kids...)
	case 22:
		l.Hidden = true
	case 23:
		l.Clip = true
	}
}
