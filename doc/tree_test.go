package doc_test

import (
	"fmt"
	"math"
	"slices"
	"testing"

	"gouache/api"
	"gouache/doc"
)

// P16.2: the new document, field by field, each time in memory of its own.
func TestNew(t *testing.T) {
	d := doc.New()
	want := api.Doc{Root: 1, Next: 2, Layers: []api.Layer{{ID: 1, Kind: 2, Opacity: 255}}}
	if !isSame(d, want) || !doc.Equal(d, want) {
		t.Errorf("New returns %#v", d)
	}
	expectCheck(t, d, api.OK, 0)
	expectTree(t, d)
	d.Layers[0].ID, d.Layers[0].Kids = 7, []int{1}
	d.Root = 7
	if !isSame(doc.New(), want) {
		t.Errorf("after a change of its result, New returns %#v", doc.New())
	}
}

// P16.2: the layers of all kinds, and of numbers that are not those of kinds.
func TestDefault(t *testing.T) {
	for _, kind := range append([]int{2, 3, 4, 5, 6, 7, -2, 256 + 1, 1<<32 + 3}, numbers...) {
		want := api.Layer{Kind: kind, Opacity: 255}
		switch kind {
		case 1, 4:
			want.Place = api.Affine{A: 1, B: 0, C: 0, D: 0, E: 1, F: 0, Den: 1}
		case 3:
			want.Filter = api.Filter{Kind: 6}
		}
		l := doc.Default(kind)
		if !isSameLayer(l, want) {
			t.Errorf("Default of %d returns %#v", kind, l)
		}
		expectHead(t, l)
	}
	for kind, err := range map[int]api.Errno{0: api.ErrKind, 1: api.OK, 2: api.OK, 3: api.OK, 6: api.ErrKind, -1: api.ErrKind, 4: api.ErrLayer, 5: api.ErrArg} {
		l := doc.Default(kind)
		l.ID = 2
		if got, _ := doc.Check(docOf(group(1, 2), l)); got != err {
			t.Errorf("the layer of kind %d makes the error %d", kind, got)
		}
	}
}

// P16.3: the first layer with an ID, also in documents that are not valid.
func TestLayer(t *testing.T) {
	d := sample()
	for _, want := range d.Layers {
		if l, ok := doc.Layer(d, want.ID); !ok || !isSameLayer(l, want) {
			t.Errorf("Layer of %d returns %v, %v", want.ID, l, ok)
		}
	}
	for _, id := range []int{0, -1, -2, 1, 4, 6, 8, 10, 13, 15, 19, 21, 22, 23, 1<<32 + 2, 256 + 2, least, greatest} {
		if l, ok := doc.Layer(d, id); ok || !isSameLayer(l, api.Layer{}) {
			t.Errorf("Layer of %d returns %v, %v", id, l, ok)
		}
	}
	first, second := paint(4), shape(4)
	several := docOf(group(9), first, paint(least), second, group(0, 1), clone(0, 5), layer(greatest, 77), adjust(-3))
	for id, want := range map[int]api.Layer{4: first, 9: group(9), least: paint(least), 0: group(0, 1), greatest: layer(greatest, 77), -3: adjust(-3)} {
		if l, ok := doc.Layer(several, id); !ok || !isSameLayer(l, want) {
			t.Errorf("Layer of %d returns %v, %v", id, l, ok)
		}
	}
	if _, ok := doc.Layer(api.Doc{}, 0); ok {
		t.Error("a document without layers has a layer")
	}
}

// expectParent reports another result of Parent; with the index -1, there should be none.
func expectParent(t *testing.T, d api.Doc, id, parent, index int) {
	t.Helper()
	want := fmt.Sprint(parent, index, true)
	if index < 0 {
		want = fmt.Sprint(0, 0, false)
	}
	if got := fmt.Sprint(doc.Parent(d, id)); got != want {
		t.Errorf("Parent of %d returns %s, not %s (%s)", id, got, want, shownDoc(d))
	}
}

// P16.3: the groups of layers.
func TestParent(t *testing.T) {
	d := sample()
	for _, x := range [][3]int{{9, 5, 0}, {7, 5, 1}, {2, 5, 2}, {14, 5, 3}, {20, 5, 4}, {12, 7, 0}, {3, 7, 1}, {11, 7, 2}} {
		expectParent(t, d, x[0], x[1], x[2])
	}
	for _, id := range []int{5, 0, -1, 1, 4, 6, 8, 22, 23, 1<<32 + 2, least, greatest} {
		expectParent(t, d, id, 0, -1)
	}
	expectParent(t, api.Doc{}, 0, 0, -1)
	// Documents that are not valid: kids of several groups, several times, without layers; kids of layers that are no groups; groups with one ID.
	other := paint(1)
	other.Kids = []int{8, 4}
	odd := layer(3, 7)
	odd.Kids = []int{30}
	d = docOf(other, group(2, 6, 4, 4, 9, 6), odd, group(0, 4, 0, 9, 8, -5, least), group(2, 7), clone(4, 31))
	for _, x := range [][3]int{{4, 2, 1}, {6, 2, 0}, {9, 2, 3}, {0, 0, 1}, {8, 0, 3}, {-5, 0, 4}, {least, 0, 5}, {7, 2, 0}, {30, 0, -1}, {31, 0, -1}, {2, 0, -1}} {
		expectParent(t, d, x[0], x[1], x[2])
	}
	expectParent(t, docOf(group(1, 1)), 1, 1, 0)
	expectParent(t, docOf(group(2, 1), group(1, 2)), 1, 2, 0)
	expectParent(t, docOf(group(2, 1), group(1, 2)), 2, 1, 0)
}

// P16.4: the sample.
func TestOrder(t *testing.T) {
	for _, x := range []struct {
		d    api.Doc
		want []int
	}{
		{sample(), []int{9, 7, 12, 3, 11, 2, 14, 20}},
		{doc.New(), nil},
		{with(sample(), setKids(5, 20, 14, 2, 7, 9), setKids(7, 11, 3, 12)), []int{20, 14, 2, 7, 11, 3, 12, 9}},
		{nested(5), []int{2, 3, 4, 5, 6}},
		{docOf(group(1, 2, 5, 3), group(2, 4), group(3, 7, 6), group(4), adjust(5), group(6, 8), shape(7), clone(8, 2)), []int{2, 4, 5, 3, 7, 6, 8}},
	} {
		if got := doc.Order(x.d); !slices.Equal(got, x.want) {
			t.Errorf("Order returns %v, not %v", got, x.want)
		}
	}
}

// P16.4: the sample, and documents whose depth is the limit.
func TestDepth(t *testing.T) {
	d := sample()
	for id, want := range map[int]int{2: 0, 3: 0, 5: 4, 7: 2, 9: 0, 11: 1, 12: 0, 14: 0, 20: 3, 0: 0, 1: 0, 4: 0, 23: 0, -5: 0, 1<<32 + 5: 0, least: 0, greatest: 0} {
		if got := doc.Depth(d, id); got != want {
			t.Errorf("Depth of %d returns %d, not %d", id, got, want)
		}
	}
	if got := doc.Depth(doc.New(), 1); got != 1 {
		t.Errorf("the depth of an empty group is %d", got)
	}
	for i := range 6 {
		if got := doc.Depth(nested(5), i+1); got != 6-i {
			t.Errorf("the depth of group %d is %d", i+1, got)
		}
		if got := doc.Depth(shown(5), i+2); got != i {
			t.Errorf("the depth of clone %d is %d", i+2, got)
		}
	}
	for id, want := range map[int]int{1: 6, 2: 5, 3: 3, 4: 1, 5: 4, 16: 4, 17: 2, 28: 2, 29: 0, 40: 0} {
		if got := doc.Depth(braided(), id); got != want {
			t.Errorf("the depth of %d, to which there are many ways, is %d", id, got)
		}
	}
}

// P16.4: in the sample, and in a document with several adjustment layers, by kids, by clones, and by what lies below.
func TestUses(t *testing.T) {
	nestedAdjusts := docOf(group(1, 2, 3, 4, 5, 6), adjust(2), paint(3), group(4, 7, 8, 9, 10), adjust(5), adjust(6), clone(7, 3), adjust(8), adjust(9), shape(10))
	for _, x := range []struct {
		d    api.Doc
		uses map[int][]int
	}{
		{sample(), map[int][]int{2: {}, 3: {12}, 5: {2, 3, 7, 9, 11, 12, 14, 20}, 7: {2, 3, 11, 12}, 9: {}, 11: {2}, 12: {}, 14: {2, 3, 7, 9, 11, 12}, 20: {2, 3, 7, 11, 12}, 0: {}, 1: {}, -5: {}, 23: {}, least: {}}},
		{nestedAdjusts, map[int][]int{1: {2, 3, 4, 5, 6, 7, 8, 9, 10}, 2: {}, 3: {}, 4: {3, 7, 8, 9, 10}, 5: {2, 3, 4, 7, 8, 9, 10}, 6: {2, 3, 4, 5, 7, 8, 9, 10}, 7: {3}, 8: {3, 7}, 9: {3, 7, 8}, 10: {}}},
		// An adjustment layer at the bottom uses nothing, and a clone uses what its group's adjustment layers do.
		{docOf(group(1, 2, 3, 4), clone(2, 3), group(3, 5, 6, 7), adjust(4), adjust(5), paint(6), adjust(7)), map[int][]int{1: {2, 3, 4, 5, 6, 7}, 2: {3, 5, 6, 7}, 3: {5, 6, 7}, 4: {2, 3, 5, 6, 7}, 5: {}, 6: {}, 7: {5, 6}}},
	} {
		for id, used := range x.uses {
			for _, other := range idsOf(x.d) {
				if got := doc.Uses(x.d, id, other); got != slices.Contains(used, other) {
					t.Errorf("Uses of %d and %d returns %v (%s)", id, other, got, shownDoc(x.d))
				}
			}
		}
	}
}

// P16.3, P16.4: all documents and all IDs, against the model.
func TestTreesAgainstModel(t *testing.T) {
	for _, d := range validDocs() {
		expectTree(t, d)
	}
	for _, x := range damages() {
		expectTree(t, with(sample(), x.change))
	}
	for seed := range 600 {
		expectTree(t, scattered(seed))
	}
}

// P16.4: of a document that is not valid, there is no order, no depth and no use, even if the defect has nothing to do with the tree.
func TestTreesOfInvalidDocuments(t *testing.T) {
	for _, x := range damages() {
		d := with(sample(), x.change)
		if got := doc.Order(d); len(got) > 0 {
			t.Errorf("with the error %d, Order returns %v", x.err, got)
		}
		for _, id := range idsOf(d) {
			if got := doc.Depth(d, id); got != 0 {
				t.Errorf("with the error %d, Depth of %d returns %d", x.err, id, got)
			}
			for _, other := range idsOf(d) {
				if doc.Uses(d, id, other) {
					t.Errorf("with the error %d, %d uses %d", x.err, id, other)
				}
			}
		}
	}
}

// P1, R5: documents much larger than the limits, and groups with many kids.
func TestLargeDocuments(t *testing.T) {
	large := api.Doc{Root: 1, Next: math.MaxInt32, Layers: make([]api.Layer, 20000)}
	for i := range large.Layers {
		large.Layers[i] = group(i+1, i+2)
	}
	if err, id := doc.Check(large); err != api.ErrMany || id != 0 {
		t.Errorf("Check returns %d, %d", err, id)
	}
	if l, ok := doc.Layer(large, 20000); !ok || l.Kids[0] != 20001 {
		t.Errorf("Layer returns %v, %v", l, ok)
	}
	expectParent(t, large, 20001, 20000, 0)
	if doc.Order(large) != nil || doc.Depth(large, 1) != 0 || doc.Uses(large, 1, 2) || !doc.Equal(large, large) {
		t.Error("a document of 20000 layers is not handled like others")
	}
	if d, err := doc.With(large, group(7)); err != api.ErrMany || !isSame(d, api.Doc{}) {
		t.Errorf("With returns the error %d", err)
	}
	many := make([]int, 1<<20)
	for i := range many {
		many[i] = i + 2
	}
	wide := docOf(group(1, many...), paint(2))
	if err, id := doc.Check(wide); err != api.ErrLayer || id != 1 {
		t.Errorf("for many kids, Check returns %d, %d", err, id)
	}
	for i := range many {
		many[i] = 2
	}
	if err, id := doc.Check(wide); err != api.ErrLayer || id != 2 {
		t.Errorf("for one kid many times, Check returns %d, %d", err, id)
	}
	l := wide.Layers[0]
	if got, err := doc.Read(doc.Head(l)); err != api.OK || !slices.Equal(got.Kids, many) {
		t.Errorf("Read of a layer with many kids returns the error %d", err)
	}
}
