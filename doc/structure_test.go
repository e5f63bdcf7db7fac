package doc_test

import (
	"testing"

	"gouache/api"
)

// setKids returns a change of the kids of a group.
func setKids(id int, kids ...int) change {
	return func(d *api.Doc) { at(d, id).Kids = kids }
}

// setOf returns a change of what a clone shows.
func setOf(id, of int) change {
	return func(d *api.Doc) { at(d, id).Of = of }
}

// P16.1, step 6: kids that are not IDs of layers, and layers that are kids of no group or twice.
func TestCheckOfKids(t *testing.T) {
	for _, x := range []struct {
		changes []change
		want    int
	}{
		{[]change{setKids(7, 12, 3, 11, 1)}, 7}, {[]change{setKids(7, 0, 12, 3, 11)}, 7}, {[]change{setKids(7, 12, 3, -11, 11)}, 7}, {[]change{setKids(7, 12, 3, 11, 21)}, 7}, {[]change{setKids(7, 12, 3, 11, 1<<32+2)}, 7}, {[]change{setKids(7, least, greatest)}, 3},
		{[]change{setKids(5, 9, 7, 2, 14, 20, 1)}, 5}, {[]change{setKids(5, 9, 7, 2, 14, 20, 22)}, 5}, {[]change{setKids(5, 9, 7, 2, 14, 20, 23)}, 5},
		// Twice in one group, in two groups, and more often.
		{[]change{setKids(7, 12, 3, 11, 12)}, 12}, {[]change{setKids(7, 12, 12, 3, 11)}, 12}, {[]change{setKids(7, 12, 3, 11, 3, 3)}, 3}, {[]change{setKids(7, 12, 3, 11, 9)}, 9}, {[]change{setKids(5, 9, 7, 2, 14, 20, 11)}, 11}, {[]change{setKids(5, 7, 9, 7, 2, 14, 20)}, 7},
		// The root as a kid, once and twice, of itself and of another group.
		{[]change{setKids(7, 12, 3, 11, 5)}, 5}, {[]change{setKids(5, 9, 7, 2, 14, 20, 5)}, 5}, {[]change{setKids(5, 5, 9, 7, 2, 14, 20, 5)}, 5}, {[]change{setKids(5, 5)}, 2},
		// Nobody's kids.
		{[]change{setKids(7, 12, 3)}, 11}, {[]change{setKids(7, 12, 11)}, 3}, {[]change{setKids(7)}, 3}, {[]change{setKids(5, 9, 2, 14, 20)}, 7}, {[]change{setKids(5)}, 2}, {[]change{setKids(5), setKids(7)}, 2},
		{[]change{setKids(5, 9, 7, 2, 14)}, 20},
		// Defects of two layers, where the first layer counts, whatever its defect is: 2 is nobody's kid, and 7 has a kid that does not exist.
		{[]change{setKids(5, 9, 7, 14, 20), setKids(7, 12, 3, 11, 1)}, 2}, {[]change{setKids(5, 9, 7, 2, 14), setKids(7, 12, 3, 11, 1)}, 7}, {[]change{setKids(5, 9, 7, 2, 14, 20, 1), setKids(7, 12, 3)}, 5}, {[]change{setKids(5, 9, 7, 2, 14, 20, 1), setKids(7, 12, 11)}, 3}, {[]change{setKids(5, 9, 7, 2, 14, 20, 20), setKids(7, 12, 3, 11, 5)}, 5},
		// Two groups exchange their kids, which all have a place then.
		{[]change{setKids(7, 9, 2, 14), setKids(5, 12, 3, 11, 7, 20)}, -1}, {[]change{setKids(7), setKids(5, 20, 14, 2, 7, 9, 12, 3, 11)}, -1},
	} {
		if x.want < 0 {
			expectCheck(t, with(sample(), x.changes...), api.OK, 0)
		} else {
			expectCheck(t, with(sample(), x.changes...), api.ErrLayer, x.want)
		}
	}
	// The root is the second group, and a kid of the first one.
	d := docOf(group(1, 2), group(2))
	d.Root = 2
	expectCheck(t, d, api.ErrLayer, 1)
	d = docOf(group(1, 2), group(2, 1))
	d.Root = 2
	expectCheck(t, d, api.ErrLayer, 2)
}

// P16.1, step 7: clones of nothing, and of adjustment layers.
func TestCheckOfClones(t *testing.T) {
	for _, of := range []int{0, -2, 1, 4, 6, 13, 22, 23, 1 << 32, 1<<32 + 2, least, greatest, 3, 14} {
		expectCheck(t, with(sample(), setOf(11, of)), api.ErrLayer, 11)
		expectCheck(t, with(sample(), setOf(20, of)), api.ErrLayer, 20)
		expectCheck(t, with(sample(), setOf(11, of), setOf(20, of)), api.ErrLayer, 11)
	}
	for _, of := range []int{2, 9, 12} {
		expectCheck(t, with(sample(), setOf(11, of)), api.OK, 0)
	}
	for _, of := range []int{2, 7, 9, 11, 12} {
		expectCheck(t, with(sample(), setOf(20, of)), api.OK, 0)
	}
}

// P16.1, step 8: layers that are parts of themselves. The first layer on a cycle counts, not the first layer that leads to one.
func TestCheckOfCycles(t *testing.T) {
	for _, x := range []struct {
		d    api.Doc
		want int
	}{
		// A clone of itself, of the group that it lies in, of a group above that.
		{with(sample(), setOf(20, 20)), 20}, {with(sample(), setOf(20, 5)), 5}, {with(sample(), setOf(11, 11)), 11}, {with(sample(), setOf(11, 7)), 7}, {with(sample(), setOf(11, 5)), 5},
		// Clones of each other, directly and by a group.
		{with(sample(), setOf(11, 20)), 7}, {with(sample(), setOf(11, 20), setOf(20, 11)), 11},
		{docOf(group(1, 2, 3), clone(2, 3), clone(3, 2)), 2}, {docOf(group(1, 2, 3, 4), clone(2, 3), clone(3, 4), clone(4, 2)), 2}, {docOf(group(1, 2, 3, 4), clone(2, 3), clone(3, 4), clone(4, 3)), 3}, {docOf(group(1, 2, 3, 4), clone(2, 3), clone(3, 4), clone(4, 4)), 4},
		{docOf(group(1, 2, 4), group(2, 3), clone(3, 4), group(4, 5), clone(5, 2)), 2}, {docOf(group(1, 4, 2), group(2, 3), clone(3, 4), group(4, 5, 6), paint(5), clone(6, 2)), 2},
		// Groups that the root does not contain.
		{docOf(group(1), group(2, 2)), 2}, {docOf(group(1), group(2, 3), group(3, 2)), 2}, {docOf(group(1, 2), paint(2), group(3, 4), group(4, 5), group(5, 3)), 3}, {docOf(group(1), group(2, 4), paint(3), group(4, 3, 2)), 2},
		{docOf(group(1), group(2, 3, 2), clone(3, 1)), 2}, {docOf(group(1, 4), group(2, 3, 2), paint(3), clone(4, 2)), 2},
		// Two cycles: the first layer that lies on either of them.
		{docOf(group(1, 2, 3, 4), clone(2, 2), clone(3, 4), clone(4, 3)), 2}, {docOf(group(1, 2, 3, 4), clone(2, 4), clone(3, 3), clone(4, 2)), 2}, {docOf(group(1, 2, 3, 4), paint(2), clone(3, 3), clone(4, 4)), 3},
	} {
		expectCheck(t, x.d, api.ErrCycle, x.want)
	}
	// An adjustment layer does not make a cycle of what lies below it.
	expectCheck(t, docOf(group(1, 2, 3, 4), group(2, 5), adjust(3), clone(4, 2), adjust(5)), api.OK, 0)
}

// filled returns a document like nested(n) whose innermost group has a kid, which is not deeper.
func filled(n int) api.Doc {
	d := nested(n)
	d.Layers[n].Kids = []int{n + 2}
	d.Layers = append(d.Layers, adjust(n+2))
	d.Next = n + 3
	return d
}

// P16.1, step 9: depths 6 and 7 by groups, by clones, and by both.
func TestCheckOfDepths(t *testing.T) {
	for n := range 10 {
		for _, d := range []api.Doc{nested(n), shown(n), filled(n)} {
			if n <= 5 {
				expectCheck(t, d, api.OK, 0)
			} else {
				expectCheck(t, d, api.ErrDepth, 1)
			}
		}
	}
	both := func(n int) api.Doc {
		d := nested(3)
		for i := range n {
			id := 5 + i
			d.Layers[0].Kids = append(d.Layers[0].Kids, id)
			d.Layers = append(d.Layers, clone(id, []int{2, id - 1}[min(i, 1)]))
		}
		d.Next += n
		return d
	}
	// The group that is shown has the depth 3, and each clone is 1 deeper.
	for n := range 7 {
		if n <= 2 {
			expectCheck(t, both(n), api.OK, 0)
		} else {
			expectCheck(t, both(n), api.ErrDepth, 1)
		}
	}
	expectCheck(t, braided(), api.OK, 0)
	expectCheck(t, with(braided(), func(d *api.Doc) { d.Layers[39] = group(40) }), api.ErrDepth, 1)
	// The root is the third layer, and the greatest depth is that of its last kid.
	d := docOf(paint(1), paint(2), group(3, 1, 2, 4), group(4, 5), group(5, 6), group(6, 7), group(7, 8), group(8, 9), group(9))
	expectCheck(t, d, api.ErrDepth, 3)
}
