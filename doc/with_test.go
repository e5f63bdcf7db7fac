package doc_test

import (
	"testing"

	"gouache/api"
	"gouache/doc"
)

// expectReplaced reports another result of With than an error, or than the document with this change.
func expectReplaced(t *testing.T, d api.Doc, l api.Layer, err api.Errno, change change) {
	t.Helper()
	var want api.Doc
	if err == api.OK {
		want = with(d, change)
	}
	expectWith(t, d, l)
	if got, e := doc.With(d, l); e != err || !isSame(got, want) {
		t.Errorf("With of %d returns %s and the error %d, not %d (%s)", l.ID, shownDoc(got), e, err, shownDoc(d))
	}
}

// P16.5: layers that are replaced in a valid document.
func TestWith(t *testing.T) {
	d := sample()
	for i, l := range d.Layers {
		expectReplaced(t, d, l, api.OK, func(d *api.Doc) {})
		l.Name, l.Opacity, l.Hidden, l.HasMask, l.Mask = "other", 9, true, true, row(2)
		expectReplaced(t, d, l, api.OK, func(d *api.Doc) { d.Layers[i] = l })
	}
	expectReplaced(t, d, shape(2), api.OK, func(d *api.Doc) { d.Layers[0] = shape(2) })
	expectReplaced(t, d, adjust(9), api.OK, func(d *api.Doc) { d.Layers[4] = adjust(9) })
	expectReplaced(t, d, clone(11, 9), api.OK, setOf(11, 9))
	expectReplaced(t, d, group(7, 11, 3, 12), api.OK, setKids(7, 11, 3, 12))
	expectReplaced(t, doc.New(), group(1), api.OK, func(d *api.Doc) {})
}

// P16.5: no such layer, or a result that is not valid, at each step that a layer can have a defect at.
func TestWithErrors(t *testing.T) {
	d := sample()
	for _, id := range []int{0, -1, 1, 4, 6, 22, 23, 1<<32 + 2, least, greatest} {
		for _, l := range []api.Layer{paint(id), layer(id, 9), {ID: id}} {
			expectReplaced(t, d, l, api.ErrLayer, nil)
			expectReplaced(t, api.Doc{}, l, api.ErrLayer, nil)
		}
	}
	named, placed, far, filled := paint(12), paint(12), paint(12), paint(12)
	named.Name, placed.Place, far.Space, filled.Content = "Name", api.Affine{}, 3, row(1025)
	for _, x := range []struct {
		l   api.Layer
		err api.Errno
	}{
		{api.Layer{ID: 2}, api.ErrKind}, {layer(2, 6), api.ErrKind}, {layer(5, 1), api.ErrLayer}, {paint(5), api.ErrLayer}, {named, api.ErrName}, {placed, api.ErrPlace}, {far, api.ErrSpace}, {filled, api.ErrArg}, {layer(12, 3), api.ErrArg},
		{group(7, 12, 3), api.ErrLayer}, {group(7, 12, 3, 11, 2), api.ErrLayer}, {group(7, 12, 3, 11, 8), api.ErrLayer}, {group(5, 9, 7, 2, 14), api.ErrLayer}, {paint(7), api.ErrLayer},
		{clone(11, 4), api.ErrLayer}, {clone(11, 14), api.ErrLayer}, {adjust(2), api.ErrLayer}, {clone(11, 11), api.ErrCycle}, {clone(11, 5), api.ErrCycle}, {clone(2, 20), api.ErrCycle},
	} {
		expectReplaced(t, d, x.l, x.err, nil)
	}
	deep := shown(5)
	expectReplaced(t, deep, group(2), api.ErrDepth, nil)
	expectReplaced(t, deep, shape(2), api.OK, func(d *api.Doc) { d.Layers[1] = shape(2) })
}

// P16.5: documents that are not valid before: the result is, or has the defect that is left.
func TestWithOfInvalidDocuments(t *testing.T) {
	repaired := 0
	for _, x := range damages() {
		d := with(sample(), x.change)
		for _, l := range sample().Layers {
			expectWith(t, d, l)
			if _, err := doc.With(d, l); err == api.OK {
				repaired++
			}
		}
	}
	if repaired < 40 {
		t.Errorf("only %d documents are repaired", repaired)
	}
	// Of several layers with one ID, the first one is replaced; so the others are still there.
	expectReplaced(t, docOf(group(1), group(1)), group(1, 2), api.ErrLayer, nil)
	expectReplaced(t, docOf(group(0)), group(0), api.ErrLayer, nil)
	expectReplaced(t, with(sample(), func(d *api.Doc) { d.Next = 0 }), paint(12), api.ErrMany, nil)
	expectReplaced(t, with(sample(), func(d *api.Doc) { d.Next = 0 }), paint(13), api.ErrLayer, nil)
	expectReplaced(t, with(sample(), func(d *api.Doc) { d.Spaces[0] = api.Space{} }), paint(12), api.ErrSpace, nil)
	expectReplaced(t, with(sample(), setOf(20, 20)), clone(20, 12), api.OK, setOf(20, 12))
	expectReplaced(t, with(sample(), setOf(20, 20), setOf(11, 11)), clone(20, 12), api.ErrCycle, nil)
}

// P16.5: documents without a visible order.
func TestWithAgainstModel(t *testing.T) {
	replaced := 0
	for seed := range 300 {
		d, other := scattered(seed), scattered(seed+1000)
		for _, l := range append(d.Layers, other.Layers...) {
			expectWith(t, d, l)
			l.Opacity, l.Clip = 5, true
			expectWith(t, d, l)
			if _, err := doc.With(d, l); err == api.OK {
				replaced++
			}
		}
	}
	if replaced < 500 {
		t.Errorf("only %d layers are replaced", replaced)
	}
}
