package doc_test

import (
	"slices"
	"testing"

	"gouache/api"
)

// damage is a change of the sample that makes it invalid: the step and the condition that find it, the layer with which they do, and the field that is changed.
type damage struct {
	step, condition int
	id              int
	field           string
	err             api.Errno
	change          change
}

// damages returns a damage of every kind, in several layers where there are several.
func damages() []damage {
	all := []damage{
		{1, 0, 0, "Spaces", api.ErrMany, func(d *api.Doc) { d.Spaces = slices.Repeat([]api.Space{square()}, 9) }},
		{1, 0, 0, "Layers", api.ErrMany, func(d *api.Doc) {
			for len(d.Layers) <= 40 {
				d.Layers = append(d.Layers, paint(d.Next))
				d.Next++
			}
		}},
		{1, 0, 0, "Next", api.ErrMany, func(d *api.Doc) { d.Next = 0 }},
		{2, 0, 0, "Curve", api.ErrSpace, func(d *api.Doc) { d.Spaces[1].Curve[2] = nil }},
		{2, 0, 0, "To", api.ErrSpace, func(d *api.Doc) { d.Spaces[0].To[0] = 0 }},
		{3, 0, 20, "Next", api.ErrLayer, func(d *api.Doc) { d.Next = 20 }},
		{3, 0, 5, "ID", api.ErrLayer, func(d *api.Doc) { d.Layers[3].ID = 5 }},
		{3, 0, -4, "ID", api.ErrLayer, func(d *api.Doc) { d.Layers[0].ID = -4 }},
		{4, 0, 9, "Root", api.ErrLayer, func(d *api.Doc) { d.Root = 9 }},
		{4, 0, 99, "Root", api.ErrLayer, func(d *api.Doc) { d.Root = 99 }},
		{6, 0, 7, "Kids 7", api.ErrLayer, func(d *api.Doc) { sampled(d, 7).Kids = []int{12, 3, 11, 1} }},
		{6, 1, 2, "Kids 5", api.ErrLayer, func(d *api.Doc) { sampled(d, 5).Kids = []int{9, 7, 14, 20} }},
		{6, 1, 12, "Kids 7", api.ErrLayer, func(d *api.Doc) { sampled(d, 7).Kids = []int{12, 3, 12, 11} }},
		{7, 0, 11, "Of 11", api.ErrLayer, func(d *api.Doc) { sampled(d, 11).Of = 14 }},
		{7, 0, 20, "Of 20", api.ErrLayer, func(d *api.Doc) { sampled(d, 20).Of = 1 }},
		{8, 0, 7, "Of 11", api.ErrCycle, func(d *api.Doc) { sampled(d, 11).Of = 7 }},
		{8, 0, 20, "Of 20", api.ErrCycle, func(d *api.Doc) { sampled(d, 20).Of = 20 }},
		{9, 0, 5, "depth", api.ErrDepth, func(d *api.Doc) {
			for id := 23; id <= 29; id++ {
				d.Layers = append(d.Layers, clone(id, []int{9, id - 1}[min(id-23, 1)]))
				sampled(d, 5).Kids = append(sampled(d, 5).Kids, id)
			}
			d.Next = max(d.Next, 30)
		}},
	}
	for _, id := range []int{2, 3, 5, 9, 20} {
		for _, x := range []struct {
			condition int
			field     string
			err       api.Errno
			change    func(l *api.Layer)
		}{
			{0, "Kind", api.ErrKind, func(l *api.Layer) { l.Kind = 6 }},
			{1, "Name", api.ErrName, func(l *api.Layer) { l.Name = "Name" }},
			{2, "Opacity", api.ErrArg, func(l *api.Layer) { l.Opacity = 256 }},
			{2, "Mode", api.ErrArg, func(l *api.Layer) { l.Mode = -1 }},
			{2, "Mask", api.ErrArg, func(l *api.Layer) { l.HasMask, l.Mask = true, invalidRasters()[0] }},
			{2, "Mask", api.ErrArg, func(l *api.Layer) { l.HasMask, l.Mask = false, row(1) }},
		} {
			// If the root is no group, this is found earlier.
			if x.field != "Kind" || id != sample().Root {
				all = append(all, damage{5, x.condition, id, x.field, x.err, func(d *api.Doc) { x.change(sampled(d, id)) }})
			}
		}
	}
	for _, x := range []struct {
		id, condition int
		field         string
		err           api.Errno
		change        func(l *api.Layer)
	}{
		{2, 3, "Fill", api.ErrKind, func(l *api.Layer) { l.Fill.B = 1 }}, {3, 3, "Path", api.ErrKind, func(l *api.Layer) { l.Path = path(0, 0) }}, {5, 3, "Of", api.ErrKind, func(l *api.Layer) { l.Of = 3 }},
		{7, 3, "Content", api.ErrKind, func(l *api.Layer) { l.Content = row(1) }}, {9, 3, "Place", api.ErrKind, func(l *api.Layer) { l.Place = identity() }}, {20, 3, "Filter", api.ErrKind, func(l *api.Layer) { l.Filter.Kind = api.Invert }}, {11, 3, "Space", api.ErrKind, func(l *api.Layer) { l.Space = 1 }}, {12, 3, "Kids", api.ErrKind, func(l *api.Layer) { l.Kids = []int{9} }},
		{2, 4, "Place", api.ErrPlace, func(l *api.Layer) { l.Place.Den = 0 }}, {20, 4, "Place", api.ErrPlace, func(l *api.Layer) { l.Place = api.Affine{} }},
		{2, 5, "Space", api.ErrSpace, func(l *api.Layer) { l.Space = 10 }}, {12, 5, "Space", api.ErrSpace, func(l *api.Layer) { l.Space = -1 }},
		{2, 6, "Content", api.ErrArg, func(l *api.Layer) { l.Content = row(1025) }}, {3, 6, "Filter", api.ErrArg, func(l *api.Layer) { l.Filter.Div = 0 }}, {9, 6, "Path", api.ErrArg, func(l *api.Layer) { l.Path = nil }},
	} {
		all = append(all, damage{5, x.condition, x.id, x.field, x.err, func(d *api.Doc) { x.change(sampled(d, x.id)) }})
	}
	return all
}

// sampled returns the layer that has this ID in the sample, and perhaps another one in this document.
func sampled(d *api.Doc, id int) *api.Layer {
	return &d.Layers[indexOf(sample(), id)]
}

// compareDamages orders damages as Check finds them.
func compareDamages(a, b damage) int {
	return slices.Compare([]int{a.step, a.id, a.condition}, []int{b.step, b.id, b.condition})
}

// damagesEachOther reports whether both damages together are another damage, or none: they change the same field, or one of them renumbers a layer that the other one relies on.
func damagesEachOther(a, b damage) bool {
	if a.field == b.field && (a.step != 5 || b.step != 5 || a.id == b.id) {
		return true
	}
	changes := func(x, y string) bool { return a.field == x && b.field == y || a.field == y && b.field == x }
	return changes("Layers", "Next") || changes("Layers", "depth") || changes("Next", "depth")
}

// P16.1, R2: each damage by itself, and all pairs of them, of which the first one counts: that of the earlier step, then of the earlier layer, then of the earlier condition.
func TestFirstDamageCounts(t *testing.T) {
	all, pairs := damages(), 0
	for i, a := range all {
		expectCheck(t, with(sample(), a.change), a.err, a.id)
		for _, b := range all[:i] {
			if damagesEachOther(a, b) {
				continue
			}
			first := a
			if compareDamages(b, a) < 0 {
				first = b
			}
			expectCheck(t, with(sample(), a.change, b.change), first.err, first.id)
			expectCheck(t, with(sample(), b.change, a.change), first.err, first.id)
			pairs++
		}
	}
	if pairs < 1500 {
		t.Errorf("only %d pairs of damages", pairs)
	}
}

// P16.1, R2: one damage less each time, from the first one on.
func TestDamagesInOrder(t *testing.T) {
	all := damages()
	slices.SortStableFunc(all, compareDamages)
	for len(all) > 0 {
		var changes []change
		for i, x := range all {
			if !slices.ContainsFunc(all[:i], func(earlier damage) bool { return damagesEachOther(earlier, x) }) {
				changes = append(changes, x.change)
			}
		}
		slices.Reverse(changes)
		expectCheck(t, with(sample(), changes...), all[0].err, all[0].id)
		all = all[1:]
	}
}
