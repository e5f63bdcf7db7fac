package doc

import "gouache/api"

// tree finds the layers of a document, of which no two have the same ID, by their IDs.
type tree map[int]*api.Layer

// treeOf returns the layers of a document by their IDs.
func treeOf(d api.Doc) tree {
	layers := tree{}
	for i := range d.Layers {
		layers[d.Layers[i].ID] = &d.Layers[i]
	}
	return layers
}

// Order returns the IDs of all layers but the root: those of the kids of each group from bottom to top, each of them followed by what it contains.
func Order(d api.Doc) []int {
	if !isValid(d) {
		return nil
	}
	layers := treeOf(d)
	var order []int
	var list func(group int)
	list = func(group int) {
		for _, kid := range layers[group].Kids {
			order = append(order, kid)
			list(kid)
		}
	}
	list(d.Root)
	return order
}

// Depth returns how many groups and clones are nested in a layer.
func Depth(d api.Doc, id int) int {
	if !isLayerOfValid(d, id) {
		return 0
	}
	return treeOf(d).depth(id)
}

// Uses reports whether the result of a layer may depend on another layer.
func Uses(d api.Doc, id, other int) bool {
	if !isLayerOfValid(d, id) {
		return false
	}
	layers := treeOf(d)
	return reached(id, func(from int) []int {
		if layers[from].Kind == api.Adjust {
			return kidsBelow(d, layers, from)
		}
		return layers.parts(from)
	})[other]
}

// isLayerOfValid reports whether a document is valid and has a layer with an ID.
func isLayerOfValid(d api.Doc, id int) bool {
	return isValid(d) && indexOf(d, id) >= 0
}

// kidsBelow returns the kids that precede a layer, which is not the root, in its group.
func kidsBelow(d api.Doc, layers tree, id int) []int {
	parent, index, _ := Parent(d, id)
	return layers[parent].Kids[:index]
}

// isGroup reports whether there is a layer with an ID that is a group.
func (t tree) isGroup(id int) bool {
	l := t[id]
	return l != nil && l.Kind == api.Group
}

// parts returns the IDs of the parts of a layer.
func (t tree) parts(id int) []int {
	switch l := t[id]; l.Kind {
	case api.Group:
		return l.Kids
	case api.Clone:
		return []int{l.Of}
	}
	return nil
}

// depth returns the depth of a layer. Nothing may be a part of itself.
func (t tree) depth(id int) int {
	// A layer that several clones show is visited only once, because the number of ways to it may double with each level.
	visited := map[int]int{}
	var depthOf func(id int) int
	depthOf = func(id int) int {
		if t[id].Kind != api.Group && t[id].Kind != api.Clone {
			return 0
		}
		if depth, isVisited := visited[id]; isVisited {
			return depth
		}
		greatest := 0
		for _, part := range t.parts(id) {
			greatest = max(greatest, depthOf(part))
		}
		visited[id] = greatest + 1
		return greatest + 1
	}
	return depthOf(id)
}

// reached returns the IDs that are reached from an ID by one or more steps, given the steps that lead away from each ID.
func reached(id int, steps func(from int) []int) map[int]bool {
	visited := map[int]bool{}
	var visit func(from int)
	visit = func(from int) {
		for _, to := range steps(from) {
			if !visited[to] {
				visited[to] = true
				visit(to)
			}
		}
	}
	visit(id)
	return visited
}
