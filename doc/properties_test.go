package doc_test

import (
	"slices"
	"testing"

	"gouache/api"
	"gouache/doc"
)

// someValid returns valid documents: those of validDocs, and those without a visible order that are valid.
func someValid() []api.Doc {
	docs := validDocs()
	for seed := range 400 {
		d := scattered(seed)
		if err, _ := doc.Check(d); err == api.OK {
			docs = append(docs, d)
		}
	}
	return docs
}

// P16.8: results of New and With are valid.
func TestResultsAreValid(t *testing.T) {
	for _, d := range append(someValid(), doc.New()) {
		expectCheck(t, d, api.OK, 0)
		for _, l := range d.Layers {
			for kind := 1; kind <= 5; kind++ {
				other := doc.Default(kind)
				other.ID, other.Kids = l.ID, l.Kids
				if got, err := doc.With(d, other); err == api.OK {
					expectCheck(t, got, api.OK, 0)
				} else if !isSame(got, api.Doc{}) {
					t.Errorf("beside the error %d, With returns %s", err, shownDoc(got))
				}
			}
		}
	}
}

// P16.8: in a valid document, Order returns every ID but the root's once, each group before its kids.
func TestOrderIsComplete(t *testing.T) {
	for _, d := range someValid() {
		order := doc.Order(d)
		var ids []int
		for _, l := range d.Layers {
			if l.ID != d.Root {
				ids = append(ids, l.ID)
			}
		}
		sorted := slices.Clone(order)
		slices.Sort(sorted)
		if !slices.Equal(sorted, ids) {
			t.Errorf("Order returns %v (%s)", order, shownDoc(d))
		}
		for i, id := range order {
			parent, index, ok := doc.Parent(d, id)
			if !ok || parent != d.Root && !slices.Contains(order[:i], parent) {
				t.Errorf("%d, of the group %d, is at place %d of %v", id, parent, i, order)
			}
			g, _ := doc.Layer(d, parent)
			if g.Kids[index] != id || index > 0 && !slices.Contains(order[:i], g.Kids[index-1]) {
				t.Errorf("%d is kid %d of %v, and at place %d of %v", id, index, g.Kids, i, order)
			}
		}
	}
}

// P16.8: in a valid document, Uses is transitive and irreflexive, and no layer is deeper than the root; what is a part is less deep.
func TestUsesAndDepthsAreConsistent(t *testing.T) {
	for _, d := range someValid() {
		for _, a := range d.Layers {
			if doc.Uses(d, a.ID, a.ID) {
				t.Errorf("%d uses itself (%s)", a.ID, shownDoc(d))
			}
			if depth := doc.Depth(d, a.ID); depth < 0 || depth > doc.Depth(d, d.Root) || depth > 6 {
				t.Errorf("the depth of %d is %d (%s)", a.ID, depth, shownDoc(d))
			}
			if a.ID != d.Root && !doc.Uses(d, d.Root, a.ID) {
				t.Errorf("the root does not use %d (%s)", a.ID, shownDoc(d))
			}
			for _, b := range d.Layers {
				if len(d.Layers) > 20 || !doc.Uses(d, a.ID, b.ID) {
					continue
				}
				if a.Kind != api.Adjust && doc.Depth(d, a.ID) <= doc.Depth(d, b.ID) {
					t.Errorf("%d is not deeper than %d (%s)", a.ID, b.ID, shownDoc(d))
				}
				for _, c := range d.Layers {
					if doc.Uses(d, b.ID, c.ID) && !doc.Uses(d, a.ID, c.ID) {
						t.Errorf("%d uses %d, and that uses %d (%s)", a.ID, b.ID, c.ID, shownDoc(d))
					}
				}
			}
		}
	}
}

// P16.8: Read inverts Head, different heads are those of different layers, and equal layers have equal keys.
func TestHeadsTellLayers(t *testing.T) {
	layers := map[string]api.Layer{}
	repeated := 0
	for seed := range 400 {
		for _, l := range scattered(seed).Layers {
			s := doc.Head(l)
			bare := copiedLayer(l)
			bare.Content, bare.Mask = api.Raster{}, api.Raster{}
			if got, err := doc.Read(s); err != api.OK || !isSameLayer(got, bare) {
				t.Errorf("%q is read as %v, with the error %d", s, got, err)
			}
			if other, isKnown := layers[s]; isKnown {
				repeated++
				if !isSameLayer(other, bare) {
					t.Errorf("%v and %v have the same head", other, bare)
				}
			}
			layers[s] = bare
			if doc.Key(l) != doc.Key(copiedLayer(l)) {
				t.Errorf("the key of %v changes", l)
			}
		}
	}
	if repeated < 100 || len(layers) < 500 {
		t.Errorf("%d heads, %d repeated", len(layers), repeated)
	}
}

// arbitrary makes documents and layers of bytes: each number is one byte, and most bytes are small numbers.
type arbitrary struct{ bytes []byte }

func (a *arbitrary) next() int {
	if len(a.bytes) == 0 {
		return 0
	}
	b := int(a.bytes[0])
	a.bytes = a.bytes[1:]
	if b >= 240 {
		return numbers[b-240]
	}
	return b
}

func (a *arbitrary) list() []int {
	var list []int
	for range min(a.next()%8, len(a.bytes)) {
		list = append(list, a.next())
	}
	return list
}

func (a *arbitrary) raster() api.Raster {
	switch a.next() % 8 {
	case 1:
		return row(a.next() % 3)
	case 2:
		return solid(a.next(), a.next(), of(1, 2, 3, uint8(a.next())))
	}
	return api.Raster{}
}

// layer returns a layer of a kind with valid fields, some of which are replaced.
func (a *arbitrary) layer() api.Layer {
	l := ofKind(a.next(), a.next()%8, a.next())
	flags := a.next()
	l.Hidden, l.Clip, l.HasMask = flags&1 > 0, flags&2 > 0, flags&4 > 0
	if l.Kind == api.Group || flags&8 > 0 {
		l.Kids = a.list()
	}
	if flags&16 > 0 {
		l.Name, l.Opacity, l.Mode = string([]byte{byte(a.next())}), a.next(), a.next()
	}
	if flags&32 > 0 {
		l.Place = api.Affine{A: a.next(), B: a.next(), C: a.next(), D: a.next(), E: a.next(), F: a.next(), Den: a.next()}
		l.Space = a.next()
	}
	if flags&64 > 0 {
		l.Filter = api.Filter{Kind: a.next(), Radius: a.next(), Kernel: a.list(), Div: a.next(), Value: a.next(), Curve: a.list()}
		l.Fill = of(uint8(a.next()), 0, 0, uint8(a.next()))
	}
	if flags&128 > 0 {
		l.Content, l.Mask = a.raster(), a.raster()
		coordinates := a.list()
		l.Path = path(coordinates[:len(coordinates)/2*2]...)
	}
	return l
}

// doc returns a document.
func (a *arbitrary) doc() api.Doc {
	d := api.Doc{Root: a.next(), Next: a.next()}
	for range a.next() % 4 {
		d.Spaces = append(d.Spaces, []api.Space{square(), {}}[a.next()&1])
	}
	for len(a.bytes) > 0 && len(d.Layers) < 50 {
		d.Layers = append(d.Layers, a.layer())
	}
	return d
}

// encoded returns bytes of which arbitrary makes nearly this document.
func encoded(d api.Doc) []byte {
	bytes := []byte{byte(d.Root), byte(d.Next), 0}
	for _, l := range d.Layers {
		bytes = append(bytes, byte(l.ID), byte(l.Kind), byte(l.Of), 0)
		if l.Kind == api.Group {
			bytes = append(bytes, byte(len(l.Kids)))
			for _, kid := range l.Kids {
				bytes = append(bytes, byte(kid))
			}
		}
	}
	return bytes
}

// P1, R2, R4, R5: all calls with arbitrary documents, layers, numbers and strings.
func FuzzDocFollowsItsRules(f *testing.F) {
	f.Add([]byte{}, "", 0)
	for _, d := range []api.Doc{sample(), nested(5), nested(6), shown(6), docOf(group(1, 2), clone(2, 1)), docOf(group(1, 2, 3), adjust(2), clone(3, 2))} {
		f.Add(encoded(d), doc.Head(d.Layers[0]), 2)
	}
	f.Add([]byte{1, 9, 1, 0, 1, 2, 0, 0, 2, 2, 3, 2, 1, 0, 7, 3, 5, 0, 128, 1, 2, 3, 4, 5, 6, 7, 8, 9}, doc.Head(full()), -1)
	f.Fuzz(func(t *testing.T, bytes []byte, s string, id int) {
		a := arbitrary{bytes[:min(len(bytes), 1000)]}
		d := a.doc()
		err, where := check(d)
		expectCheck(t, d, err, where)
		expectTree(t, d)
		expectAccess(t, d, id)
		l := (&arbitrary{[]byte(s)}).layer()
		expectWith(t, d, l)
		expectHead(t, l)
		for i, l := range d.Layers {
			expectHead(t, l)
			if i < 5 {
				l.Opacity--
				expectWith(t, d, l)
			}
		}
		expectReadAsModel(t, s)
		if !doc.Equal(d, copied(d)) || doc.Equal(d, with(d, func(d *api.Doc) { d.Root++ })) {
			t.Errorf("Equal of %s", shownDoc(d))
		}
	})
}
