package doc

import (
	"slices"

	"gouache/affine"
	"gouache/api"
	"gouache/colour"
	"gouache/filter"
	"gouache/raster"
	"gouache/selection"
)

const (
	maxSpaces = 8
	maxNext   = 1 << 20
)

// defect is what the search for defects panics with when it finds the first one, so that no step of it has to hand on the errors of the steps that it is made of.
type defect struct {
	err api.Errno
	id  int
}

// condition is what has to hold of every layer, and the error of the layers of which it does not hold.
type condition struct {
	err   api.Errno
	holds func(l *api.Layer) bool
}

// Check returns the error of the first defect of a document, and the ID of the layer concerned.
func Check(d api.Doc) (err api.Errno, id int) {
	defer func() {
		if found, isDefect := recover().(defect); isDefect {
			err, id = found.err, found.id
		}
	}()
	findDefect(d)
	return api.OK, 0
}

// isValid reports whether a document has no defect.
func isValid(d api.Doc) bool {
	err, _ := Check(d)
	return err == api.OK
}

// findDefect panics with the first defect of a document, if there is one. Each step relies on what the steps before it require.
func findDefect(d api.Doc) {
	require(len(d.Spaces) <= maxSpaces && len(d.Layers) <= api.MaxLayers && isWithin(d.Next, 1, maxNext), api.ErrMany, 0)
	require(!slices.ContainsFunc(d.Spaces, func(s api.Space) bool { return !colour.Valid(s) }), api.ErrSpace, 0)
	requireOfLayers(d, isNumbered(d.Next))
	layers := treeOf(d)
	require(layers.isGroup(d.Root), api.ErrLayer, d.Root)
	requireOfLayers(d, fieldConditions(len(d.Spaces))...)
	requireOfLayers(d, kidConditions(d, layers)...)
	requireOfLayers(d, showsLayer(layers))
	requireOfLayers(d, condition{api.ErrCycle, func(l *api.Layer) bool { return !reached(l.ID, layers.parts)[l.ID] }})
	require(layers.depth(d.Root) <= api.MaxDepth, api.ErrDepth, d.Root)
}

// require panics with a defect unless a condition holds.
func require(holds bool, err api.Errno, id int) {
	if !holds {
		panic(defect{err, id})
	}
}

// requireOfLayers panics with the first defect of the first layer of which not all conditions hold.
func requireOfLayers(d api.Doc, conditions ...condition) {
	for i := range d.Layers {
		l := &d.Layers[i]
		for _, c := range conditions {
			require(c.holds(l), c.err, l.ID)
		}
	}
}

// isNumbered returns the condition that the IDs of layers, which have to be given to it in order, rise from 1 or more to less than next.
func isNumbered(next int) condition {
	previous := 0
	return condition{api.ErrLayer, func(l *api.Layer) bool {
		isNext := previous < l.ID && l.ID < next
		previous = l.ID
		return isNext
	}}
}

// fieldConditions returns the conditions of the fields of a layer, by themselves, in a document with a number of colour spaces.
func fieldConditions(spaces int) []condition {
	return []condition{
		{api.ErrKind, func(l *api.Layer) bool { return isWithin(l.Kind, api.Paint, api.Shape) }},
		{api.ErrName, func(l *api.Layer) bool { return isName(l.Name) }},
		{api.ErrArg, func(l *api.Layer) bool {
			return isWithin(l.Opacity, 0, opaque) && isWithin(l.Mode, api.Normal, api.Negation) && hasAdmissibleMask(l)
		}},
		{api.ErrKind, func(l *api.Layer) bool { return hasNoOtherFields(*l) }},
		{api.ErrPlace, func(l *api.Layer) bool { return !usesPlace(l) || affine.Valid(l.Place) }},
		// Where a layer does not use the space, or the content, it is zero by now, which is valid.
		{api.ErrSpace, func(l *api.Layer) bool { return isWithin(l.Space, 0, spaces) }},
		{api.ErrArg, func(l *api.Layer) bool {
			return raster.Valid(l.Content) &&
				(l.Kind != api.Adjust || filter.Valid(l.Filter)) &&
				(l.Kind != api.Shape || selection.Valid(l.Path))
		}},
	}
}

// kidConditions returns the conditions that the kids of groups are layers, and that every layer but the root is a kid once.
func kidConditions(d api.Doc, layers tree) []condition {
	occurrences := map[int]int{}
	for i := range d.Layers {
		for _, kid := range d.Layers[i].Kids {
			occurrences[kid]++
		}
	}
	isMissing := func(id int) bool { return layers[id] == nil }
	return []condition{
		{api.ErrLayer, func(l *api.Layer) bool { return !slices.ContainsFunc(l.Kids, isMissing) }},
		{api.ErrLayer, func(l *api.Layer) bool {
			if l.ID == d.Root {
				return occurrences[l.ID] == 0
			}
			return occurrences[l.ID] == 1
		}},
	}
}

// showsLayer returns the condition that a clone shows a layer that is not an adjustment layer.
func showsLayer(layers tree) condition {
	return condition{api.ErrLayer, func(l *api.Layer) bool {
		if l.Kind != api.Clone {
			return true
		}
		shown := layers[l.Of]
		return shown != nil && shown.Kind != api.Adjust
	}}
}

// isName reports whether a string may be the name of a layer.
func isName(name string) bool {
	if len(name) > api.MaxName {
		return false
	}
	for i := range len(name) {
		c := name[i]
		if !('a' <= c && c <= 'z' || '0' <= c && c <= '9' || c == '-' || c == '_') {
			return false
		}
	}
	return true
}

// hasAdmissibleMask reports whether the mask of a layer is valid, and empty if the layer has none.
func hasAdmissibleMask(l *api.Layer) bool {
	return raster.Valid(l.Mask) && (l.HasMask || len(l.Mask.Tiles) == 0)
}

// usesPlace reports whether a layer is of a kind that uses a placement.
func usesPlace(l *api.Layer) bool {
	return l.Kind == api.Paint || l.Kind == api.Clone
}

// hasNoOtherFields reports whether all special fields that a layer does not use are zero or empty.
func hasNoOtherFields(l api.Layer) bool {
	// Of this copy of the layer, the fields that it uses are cleared, so that all of them have to be zero.
	switch l.Kind {
	case api.Paint:
		l.Place, l.Space, l.Content = api.Affine{}, 0, api.Raster{}
	case api.Group:
		l.Kids = nil
	case api.Adjust:
		l.Filter = api.Filter{}
	case api.Clone:
		l.Place, l.Of = api.Affine{}, 0
	case api.Shape:
		l.Path, l.Fill = nil, api.Pixel{}
	}
	return l.Place == (api.Affine{}) && l.Space == 0 && len(l.Kids) == 0 && l.Of == 0 && isZeroFilter(l.Filter) &&
		l.Fill == (api.Pixel{}) && len(l.Path) == 0 && len(l.Content.Tiles) == 0
}

// isZeroFilter reports whether all fields of a filter are zero or empty.
func isZeroFilter(f api.Filter) bool {
	return f.Kind == 0 && f.Radius == 0 && len(f.Kernel) == 0 && f.Div == 0 && f.Value == 0 && len(f.Curve) == 0
}

// isWithin reports whether n is from low to high.
func isWithin(n, low, high int) bool {
	return low <= n && n <= high
}
