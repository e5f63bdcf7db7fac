package doc_test

import (
	"reflect"
	"testing"

	"gouache/api"
	"gouache/digest"
	"gouache/doc"
	"gouache/raster"
)

// variants returns a layer with all fields, and layers that differ from it in one field each.
func variants() []api.Layer {
	all := []api.Layer{full()}
	add := func(change func(l *api.Layer)) {
		l := copiedLayer(full())
		change(&l)
		all = append(all, l)
	}
	l := full()
	for i := range numberFields(&l) {
		add(func(l *api.Layer) { *numberFields(l)[i]++ })
		add(func(l *api.Layer) { *numberFields(l)[i] -= 100 })
	}
	for _, change := range []func(l *api.Layer){
		func(l *api.Layer) { l.Name = "" }, func(l *api.Layer) { l.Name = "abd" }, func(l *api.Layer) { l.Name = "abc\x00" }, func(l *api.Layer) { l.Name = "ab" },
		func(l *api.Layer) { l.Hidden = false }, func(l *api.Layer) { l.Clip = true }, func(l *api.Layer) { l.HasMask = false },
		func(l *api.Layer) { l.Fill.R++ }, func(l *api.Layer) { l.Fill.G++ }, func(l *api.Layer) { l.Fill.B++ }, func(l *api.Layer) { l.Fill.A++ },
		func(l *api.Layer) { l.Kids = nil }, func(l *api.Layer) { l.Kids = []int{13} }, func(l *api.Layer) { l.Kids = []int{14, 13} }, func(l *api.Layer) { l.Kids = []int{13, 14, 0} },
		func(l *api.Layer) { l.Filter.Kernel = nil }, func(l *api.Layer) { l.Filter.Kernel = []int{18, 19} }, func(l *api.Layer) { l.Filter.Kernel = []int{18, 19, 20, 0} },
		func(l *api.Layer) { l.Filter.Curve = nil }, func(l *api.Layer) { l.Filter.Curve = api.Curve{23, 0} },
		func(l *api.Layer) { l.Path = nil }, func(l *api.Layer) { l.Path = l.Path[:1] }, func(l *api.Layer) { l.Path = append(l.Path, api.Point{}) }, func(l *api.Layer) { l.Path[0], l.Path[1] = l.Path[1], l.Path[0] },
		func(l *api.Layer) { l.Content = api.Raster{} }, func(l *api.Layer) { l.Content = row(1) }, func(l *api.Layer) { l.Content = row(4) }, func(l *api.Layer) { l.Content.Tiles[1].Pos.Y++ }, func(l *api.Layer) { l.Content.Tiles[1].Tile[63].A++ },
		func(l *api.Layer) { l.Mask = api.Raster{} }, func(l *api.Layer) { l.Mask = row(2) }, func(l *api.Layer) { l.Mask.Tiles[0].Pos.X-- }, func(l *api.Layer) { l.Mask.Tiles[2].Tile[0].R++ }, func(l *api.Layer) { l.Content, l.Mask = l.Mask, l.Content },
	} {
		add(change)
	}
	return all
}

// P16.6: the digest of the head and of the keys of both rasters. Rasters that are not valid count as empty, as raster.Key says.
func TestKey(t *testing.T) {
	for _, l := range append(sample().Layers, variants()...) {
		expectHead(t, l)
		if got, want := doc.Key(l), digest.Join(doc.Head(l), string(raster.Key(l.Content)), string(raster.Key(l.Mask))); got != want {
			t.Errorf("Key returns %x, not %x", got, want)
		}
	}
	if got := digest.Hex(doc.Key(api.Layer{})); got != "94ea692a1510be67f7bcb5e3fb4635accb9e96451d97dc05ded98cf13e6c923d" {
		t.Errorf("Key of the zero layer returns %s", got)
	}
	for _, r := range invalidRasters() {
		l, empty := full(), full()
		l.Content, empty.Content = r, api.Raster{}
		if doc.Key(l) != doc.Key(empty) {
			t.Errorf("the content %v does not count as empty", r)
		}
		l, empty = full(), full()
		l.Mask, empty.Mask = r, api.Raster{}
		if doc.Key(l) != doc.Key(empty) {
			t.Errorf("the mask %v does not count as empty", r)
		}
	}
}

// P16.6, P16.7, P16.8: layers that differ in one field have different keys, and their documents are not equal; those of equal layers are.
func TestVariants(t *testing.T) {
	all := variants()
	for i, a := range all {
		for j, b := range all {
			same := isSameLayer(a, b)
			if same != (i == j) {
				t.Fatalf("variants %d and %d: %v", i, j, same)
			}
			if got := doc.Key(a) == doc.Key(copiedLayer(b)); got != same {
				t.Errorf("the keys of variants %d and %d are equal: %v", i, j, got)
			}
		}
		for j := range min(i+1, 100) {
			b := all[(i+j)%len(all)]
			for _, docs := range [][2]api.Doc{{docOf(a), docOf(b)}, {docOf(group(1), a, shape(2)), docOf(group(1), b, shape(2))}, {docOf(group(1), shape(2), a), docOf(group(1), shape(2), b)}} {
				docs[0].Root, docs[0].Next, docs[1].Root, docs[1].Next = 1, 2, 1, 2
				if got := doc.Equal(docs[0], copied(docs[1])); got != (j == 0) {
					t.Errorf("documents with the variants %d and %d are equal: %v", i, (i+j)%len(all), got)
				}
			}
		}
	}
}

// P16.7: documents that differ in one field of themselves or of a space, or in the number or the order of their layers and spaces.
func TestEqual(t *testing.T) {
	changes := []change{
		func(d *api.Doc) {},
		func(d *api.Doc) { d.Root = 7 }, func(d *api.Doc) { d.Root = -5 }, func(d *api.Doc) { d.Next++ }, func(d *api.Doc) { d.Next = 0 },
		func(d *api.Doc) { d.Layers = nil }, func(d *api.Doc) { d.Layers = d.Layers[:8] }, func(d *api.Doc) { d.Layers = d.Layers[1:] }, func(d *api.Doc) { d.Layers = append(d.Layers, api.Layer{}) },
		func(d *api.Doc) { d.Layers[0], d.Layers[1] = d.Layers[1], d.Layers[0] },
		func(d *api.Doc) { d.Spaces = nil }, func(d *api.Doc) { d.Spaces = d.Spaces[:1] }, func(d *api.Doc) { d.Spaces = d.Spaces[1:] }, func(d *api.Doc) { d.Spaces = append(d.Spaces, api.Space{}) },
		func(d *api.Doc) { d.Spaces[0], d.Spaces[1] = d.Spaces[1], d.Spaces[0] },
	}
	for space := range 2 {
		for i := range 9 {
			changes = append(changes, func(d *api.Doc) { d.Spaces[space].To[i]++ }, func(d *api.Doc) { d.Spaces[space].From[i]-- })
		}
		for i := range 3 {
			changes = append(changes, func(d *api.Doc) { d.Spaces[space].Curve[i][1]++ }, func(d *api.Doc) { d.Spaces[space].Curve[i] = nil }, func(d *api.Doc) { d.Spaces[space].Curve[i] = append(d.Spaces[space].Curve[i], 65535) }, func(d *api.Doc) { d.Spaces[space].Curve[i][0] = least })
		}
	}
	for i := range 9 {
		changes = append(changes, func(d *api.Doc) { d.Layers[i].Opacity-- }, func(d *api.Doc) { d.Layers[i].Mask = row(2) })
	}
	for i := range changes {
		a := with(sample(), changes[i])
		for j := range changes {
			b := with(sample(), changes[j])
			if isSame(a, b) != (i == j) {
				t.Fatalf("changes %d and %d", i, j)
			}
			if got := doc.Equal(a, b); got != (i == j) {
				t.Errorf("with the changes %d and %d, Equal returns %v", i, j, got)
			}
		}
	}
}

// P16.7: rasters that are not valid are compared as they are.
func TestEqualOfInvalidRasters(t *testing.T) {
	all := append(invalidRasters(), api.Raster{})
	for i, a := range all {
		for j, b := range all {
			contents := [2]api.Doc{docOf(group(1), api.Layer{Content: a}), docOf(group(1), api.Layer{Content: b})}
			masks := [2]api.Doc{docOf(group(1), api.Layer{Mask: a}), docOf(group(1), api.Layer{Mask: b})}
			if got := doc.Equal(contents[0], contents[1]); got != (i == j) {
				t.Errorf("with the contents %d and %d, Equal returns %v", i, j, got)
			}
			if got := doc.Equal(masks[0], masks[1]); got != (i == j) {
				t.Errorf("with the masks %d and %d, Equal returns %v", i, j, got)
			}
		}
	}
}

// emptied returns a document in which lists are empty instead of nil.
func emptied(d api.Doc) api.Doc {
	d = copied(d)
	d.Spaces, d.Layers = append([]api.Space{}, d.Spaces...), append([]api.Layer{}, d.Layers...)
	for i := range d.Spaces {
		for j, c := range d.Spaces[i].Curve {
			d.Spaces[i].Curve[j] = append(api.Curve{}, c...)
		}
	}
	for i := range d.Layers {
		l := &d.Layers[i]
		l.Kids, l.Path = append([]int{}, l.Kids...), append([]api.Point{}, l.Path...)
		l.Filter.Kernel, l.Filter.Curve = append([]int{}, l.Filter.Kernel...), append(api.Curve{}, l.Filter.Curve...)
		l.Content.Tiles, l.Mask.Tiles = append([]api.TileAt{}, l.Content.Tiles...), append([]api.TileAt{}, l.Mask.Tiles...)
	}
	return d
}

// R1, P16.7: lists that are nil, and empty ones, in all calls.
func TestNilAndEmptyLists(t *testing.T) {
	docs := append(validDocs(), api.Doc{}, api.Doc{Spaces: []api.Space{{}}, Layers: []api.Layer{{}}})
	for _, x := range damages() {
		docs = append(docs, with(sample(), x.change))
	}
	for _, d := range docs {
		d = copied(d)
		other := emptied(d)
		if reflect.DeepEqual(d, other) || !doc.Equal(d, other) || !doc.Equal(other, d) || !doc.Equal(other, other) {
			t.Errorf("empty lists are not equal to nil (%s)", shownDoc(d))
		}
		err, id := doc.Check(d)
		expectCheck(t, other, err, id)
		expectTree(t, other)
		for i, l := range other.Layers {
			expectHead(t, l)
			expectWith(t, other, l)
			if doc.Key(l) != doc.Key(d.Layers[i]) {
				t.Errorf("Key of %v depends on whether lists are nil", l)
			}
		}
	}
}
