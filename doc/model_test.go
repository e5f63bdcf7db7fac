package doc_test

import (
	"crypto/sha256"
	"encoding/binary"
	"fmt"
	"reflect"
	"regexp"
	"slices"
	"strings"
	"testing"

	"gouache/affine"
	"gouache/api"
	"gouache/colour"
	"gouache/doc"
	"gouache/filter"
	"gouache/raster"
	"gouache/selection"
)

// copiedLayer returns a copy of a layer in memory of its own, whose empty lists are nil.
func copiedLayer(l api.Layer) api.Layer {
	l.Kids = append([]int(nil), l.Kids...)
	l.Filter.Kernel = append([]int(nil), l.Filter.Kernel...)
	l.Filter.Curve = append(api.Curve(nil), l.Filter.Curve...)
	l.Path = append([]api.Point(nil), l.Path...)
	l.Content.Tiles = append([]api.TileAt(nil), l.Content.Tiles...)
	l.Mask.Tiles = append([]api.TileAt(nil), l.Mask.Tiles...)
	return l
}

// copied returns a copy of a document in memory of its own, whose empty lists are nil.
func copied(d api.Doc) api.Doc {
	var spaces []api.Space
	for _, s := range d.Spaces {
		for i, c := range s.Curve {
			s.Curve[i] = append(api.Curve(nil), c...)
		}
		spaces = append(spaces, s)
	}
	var layers []api.Layer
	for _, l := range d.Layers {
		layers = append(layers, copiedLayer(l))
	}
	d.Spaces, d.Layers = spaces, layers
	return d
}

// isSame is Equal, as P16.7 says it.
func isSame(a, b api.Doc) bool {
	return reflect.DeepEqual(copied(a), copied(b))
}

// isSameLayer reports whether two layers are equal in all fields.
func isSameLayer(a, b api.Layer) bool {
	return reflect.DeepEqual(copiedLayer(a), copiedLayer(b))
}

// found is a defect, and the numbers of the step, of the layer and of the condition that it was found by.
type found struct {
	place [3]int
	err   api.Errno
	id    int
}

// search collects all defects of a document.
type search struct {
	d     api.Doc
	found []found
}

// add adds a defect if there is one.
func (s *search) add(isDefect bool, step, layer, number int, err api.Errno) {
	if isDefect {
		id := s.d.Root
		if layer >= 0 {
			id = s.d.Layers[layer].ID
		}
		s.found = append(s.found, found{[3]int{step, layer, number}, err, id})
	}
}

// check is Check, as P16.1 says it: of all defects, the first one.
func check(d api.Doc) (api.Errno, int) {
	if len(d.Layers) > 200 {
		return api.ErrMany, 0
	}
	s := search{d: d}
	s.add(len(d.Spaces) > 8 || len(d.Layers) > 40 || d.Next < 1 || d.Next > 1048576, 1, -1, 0, api.ErrMany)
	for _, space := range d.Spaces {
		s.add(!colour.Valid(space), 2, -1, 0, api.ErrSpace)
	}
	i := indexOf(d, d.Root)
	s.add(i < 0 || d.Layers[i].Kind != api.Group, 4, -1, 0, api.ErrLayer)
	links := closure(d, parts)
	for i, l := range d.Layers {
		s.add(l.ID < 1 || i > 0 && l.ID <= d.Layers[i-1].ID || l.ID >= d.Next, 3, i, 0, api.ErrLayer)
		s.addFields(i)
		for _, kid := range l.Kids {
			s.add(indexOf(d, kid) < 0, 6, i, 0, api.ErrLayer)
		}
		s.add(l.ID == d.Root && uses(d, l.ID) != 0 || l.ID != d.Root && uses(d, l.ID) != 1, 6, i, 1, api.ErrLayer)
		of := indexOf(d, l.Of)
		s.add(l.Kind == api.Clone && (of < 0 || d.Layers[of].Kind == api.Adjust), 7, i, 0, api.ErrLayer)
		s.add(links[i][i], 8, i, 0, api.ErrCycle)
	}
	s.add(i >= 0 && depths(d)[i] > 6, 9, -1, 0, api.ErrDepth)
	if len(s.found) == 0 {
		return api.OK, 0
	}
	first := slices.MinFunc(s.found, func(a, b found) int { return slices.Compare(a.place[:], b.place[:]) })
	if first.place[0] <= 2 {
		return first.err, 0
	}
	return first.err, first.id
}

// addFields adds the defects of step 5.
func (s *search) addFields(i int) {
	l := copiedLayer(s.d.Layers[i])
	s.add(l.Kind < 1 || l.Kind > 5, 5, i, 0, api.ErrKind)
	s.add(!regexp.MustCompile(`\A[-a-z0-9_]{0,12}\z`).MatchString(l.Name), 5, i, 1, api.ErrName)
	s.add(l.Opacity < 0 || l.Opacity > 255 || l.Mode < 0 || l.Mode > 15, 5, i, 2, api.ErrArg)
	s.add(!raster.Valid(l.Mask) || l.Mask.Tiles != nil && !l.HasMask, 5, i, 2, api.ErrArg)
	used := map[int]string{api.Paint: "Place Space Content", api.Group: "Kids", api.Adjust: "Filter", api.Clone: "Place Of", api.Shape: "Path Fill"}[l.Kind]
	isUsed := func(field string) bool { return slices.Contains(strings.Fields(used), field) }
	for _, field := range strings.Fields("Place Space Kids Of Filter Fill Path Content") {
		s.add(!isUsed(field) && !reflect.ValueOf(l).FieldByName(field).IsZero(), 5, i, 3, api.ErrKind)
	}
	s.add(isUsed("Place") && !affine.Valid(l.Place), 5, i, 4, api.ErrPlace)
	s.add(isUsed("Space") && (l.Space < 0 || l.Space > len(s.d.Spaces)), 5, i, 5, api.ErrSpace)
	s.add(isUsed("Content") && !raster.Valid(l.Content), 5, i, 6, api.ErrArg)
	s.add(isUsed("Filter") && !filter.Valid(l.Filter), 5, i, 6, api.ErrArg)
	s.add(isUsed("Path") && !selection.Valid(l.Path), 5, i, 6, api.ErrArg)
}

// indexOf returns the index of the first layer with an ID, or -1.
func indexOf(d api.Doc, id int) int {
	for i, l := range d.Layers {
		if l.ID == id {
			return i
		}
	}
	return -1
}

// uses returns how often an ID occurs as a kid.
func uses(d api.Doc, id int) int {
	n := 0
	for _, l := range d.Layers {
		for _, kid := range l.Kids {
			if kid == id {
				n++
			}
		}
	}
	return n
}

// parts returns the parts of the layer with this index.
func parts(d api.Doc, i int) []int {
	switch d.Layers[i].Kind {
	case api.Group:
		return d.Layers[i].Kids
	case api.Clone:
		return []int{d.Layers[i].Of}
	}
	return nil
}

// steps returns the steps that Uses follows from the layer with this index.
func steps(d api.Doc, i int) []int {
	if d.Layers[i].Kind == api.Adjust {
		for _, l := range d.Layers {
			for n, kid := range l.Kids {
				if kid == d.Layers[i].ID {
					return l.Kids[:n]
				}
			}
		}
	}
	return parts(d, i)
}

// closure returns which layers can be reached from which, by their indices.
func closure(d api.Doc, next func(d api.Doc, i int) []int) [][]bool {
	n := len(d.Layers)
	links := make([][]bool, n)
	for i := range links {
		links[i] = make([]bool, n)
		for _, id := range next(d, i) {
			if j := indexOf(d, id); j >= 0 {
				links[i][j] = true
			}
		}
	}
	for k := range n {
		for i := range n {
			for j := range n {
				links[i][j] = links[i][j] || links[i][k] && links[k][j]
			}
		}
	}
	return links
}

// depths returns the depths of all layers, by their indices, or greater numbers than that of layers if there is a cycle.
func depths(d api.Doc) []int {
	depths := make([]int, len(d.Layers))
	for range len(d.Layers) + 1 {
		for i, l := range d.Layers {
			if l.Kind == api.Group || l.Kind == api.Clone {
				depths[i] = 1
			}
			for _, id := range parts(d, i) {
				if j := indexOf(d, id); j >= 0 {
					depths[i] = max(depths[i], depths[j]+1)
				}
			}
		}
	}
	return depths
}

// order is Order of a valid document, as P16.4 says it: the layers are sorted by their places, which are those of their groups with their index added.
func order(d api.Doc) []int {
	places := map[int][]int{d.Root: nil}
	for len(places) < len(d.Layers) {
		for _, l := range d.Layers {
			place, isKnown := places[l.ID]
			for i, kid := range l.Kids {
				if isKnown {
					places[kid] = append(slices.Clone(place), i)
				}
			}
		}
	}
	var ids []int
	for id := range places {
		if id != d.Root {
			ids = append(ids, id)
		}
	}
	slices.SortFunc(ids, func(a, b int) int { return slices.Compare(places[a], places[b]) })
	return ids
}

// head is Head, as P16.6 says it.
func head(l api.Layer) string {
	var s []byte
	add := func(numbers ...int) {
		for _, n := range numbers {
			s = binary.AppendUvarint(s, uint64(n))
		}
	}
	bit := func(isSet bool, value byte) byte {
		if isSet {
			return value
		}
		return 0
	}
	add(l.ID, l.Kind, len(l.Name))
	s = append(s, l.Name...)
	s = append(s, bit(l.Hidden, 1)+bit(l.Clip, 2)+bit(l.HasMask, 4))
	add(l.Opacity, l.Mode, l.Place.A, l.Place.B, l.Place.C, l.Place.D, l.Place.E, l.Place.F, l.Place.Den, l.Space, len(l.Kids))
	add(l.Kids...)
	add(l.Of, l.Filter.Kind, l.Filter.Radius, len(l.Filter.Kernel))
	add(l.Filter.Kernel...)
	add(l.Filter.Div, l.Filter.Value, len(l.Filter.Curve))
	add(l.Filter.Curve...)
	s = append(s, l.Fill.R, l.Fill.G, l.Fill.B, l.Fill.A)
	add(len(l.Path))
	for _, p := range l.Path {
		add(p.X, p.Y)
	}
	return string(s)
}

// malformed is what the functions of a parser panic with.
type malformed struct{}

// parser takes encodings from the beginning of a string.
type parser struct{ rest string }

func (p *parser) take(n int) string {
	if n < 0 || n > len(p.rest) {
		panic(malformed{})
	}
	s := p.rest[:n]
	p.rest = p.rest[n:]
	return s
}

func (p *parser) number() int {
	v, n := binary.Uvarint([]byte(p.rest[:min(len(p.rest), 10)]))
	if n <= 0 || len(binary.AppendUvarint(nil, v)) != n {
		panic(malformed{})
	}
	p.take(n)
	return int(v)
}

// list takes n lists of numbers, all of the same size, and returns all the numbers.
func (p *parser) list(size int) []int {
	n := p.number()
	if n < 0 || n > len(p.rest) {
		panic(malformed{})
	}
	var numbers []int
	for range n * size {
		numbers = append(numbers, p.number())
	}
	return numbers
}

// read is Read, as P16.6 says it.
func read(s string) (l api.Layer, err api.Errno) {
	defer func() {
		if r := recover(); r != nil {
			_ = r.(malformed)
			l, err = api.Layer{}, api.ErrForm
		}
	}()
	p := parser{s}
	l.ID, l.Kind = p.number(), p.number()
	l.Name = p.take(p.number())
	flags := p.take(1)[0]
	if flags > 7 {
		panic(malformed{})
	}
	l.Hidden, l.Clip, l.HasMask = flags%2 == 1, flags/2%2 == 1, flags/4 == 1
	l.Opacity, l.Mode = p.number(), p.number()
	for _, field := range []*int{&l.Place.A, &l.Place.B, &l.Place.C, &l.Place.D, &l.Place.E, &l.Place.F, &l.Place.Den, &l.Space} {
		*field = p.number()
	}
	l.Kids = p.list(1)
	l.Of = p.number()
	l.Filter.Kind, l.Filter.Radius = p.number(), p.number()
	l.Filter.Kernel = p.list(1)
	l.Filter.Div, l.Filter.Value = p.number(), p.number()
	l.Filter.Curve = p.list(1)
	fill := p.take(4)
	l.Fill = of(fill[0], fill[1], fill[2], fill[3])
	l.Path = path(p.list(2)...)
	if p.rest != "" {
		panic(malformed{})
	}
	return l, api.OK
}

// key is Key, as P16.6 says it.
func key(l api.Layer) api.Digest {
	var list []byte
	for _, part := range []string{head(l), string(raster.Key(l.Content)), string(raster.Key(l.Mask))} {
		list = binary.BigEndian.AppendUint64(list, uint64(len(part)))
		list = append(list, part...)
	}
	sum := sha256.Sum256(list)
	return api.Digest(sum[:])
}

// shownDoc returns a short text for messages.
func shownDoc(d api.Doc) string {
	s := fmt.Sprintf("root %d, next %d, %d spaces", d.Root, d.Next, len(d.Spaces))
	for _, l := range d.Layers[:min(len(d.Layers), 45)] {
		s += fmt.Sprintf("; %d kind %d %q %v of %d", l.ID, l.Kind, l.Name, l.Kids[:min(len(l.Kids), 45)], l.Of)
	}
	return s
}

// expectCheck reports another result of Check, or another one of the model, and a document that is no longer what it was.
func expectCheck(t *testing.T, d api.Doc, err api.Errno, id int) {
	t.Helper()
	before := copied(d)
	if got, where := doc.Check(d); got != err || where != id {
		t.Errorf("Check returns %d, %d, not %d, %d (%s)", got, where, err, id, shownDoc(d))
	}
	if got, where := check(d); got != err || where != id {
		t.Errorf("the model returns %d, %d, not %d, %d (%s)", got, where, err, id, shownDoc(d))
	}
	if !isSame(before, d) {
		t.Errorf("Check changes %s", shownDoc(d))
	}
}

// idsOf returns the IDs of layers, of kids and of clones' originals in a document, and others.
func idsOf(d api.Doc) []int {
	ids := []int{0, -1, 1, d.Root, d.Next, d.Next - 1, least, greatest}
	for _, l := range d.Layers {
		ids = append(append(ids, l.ID, l.Of), l.Kids...)
	}
	slices.Sort(ids)
	return slices.Compact(ids)
}

// expectTree reports results of Layer, Parent, Order, Depth and Uses that differ from the model, for all IDs.
func expectTree(t *testing.T, d api.Doc) {
	t.Helper()
	before := copied(d)
	err, _ := check(d)
	isValid := err == api.OK
	var wantOrder []int
	var wantDepths []int
	var wantUses [][]bool
	if isValid {
		wantOrder, wantDepths, wantUses = order(d), depths(d), closure(d, steps)
	}
	if got := doc.Order(d); !slices.Equal(got, wantOrder) {
		t.Fatalf("Order returns %v, not %v (%s)", got, wantOrder, shownDoc(d))
	}
	ids := idsOf(d)
	for _, id := range ids {
		expectAccess(t, d, id)
		i := indexOf(d, id)
		depth := 0
		if isValid && i >= 0 {
			depth = wantDepths[i]
		}
		if got := doc.Depth(d, id); got != depth {
			t.Fatalf("Depth of %d returns %d, not %d (%s)", id, got, depth, shownDoc(d))
		}
		for _, other := range ids {
			j := indexOf(d, other)
			if got, want := doc.Uses(d, id, other), isValid && i >= 0 && j >= 0 && wantUses[i][j]; got != want {
				t.Fatalf("Uses of %d and %d returns %v (%s)", id, other, got, shownDoc(d))
			}
		}
	}
	if !isSame(before, d) {
		t.Fatalf("a document is changed: %s", shownDoc(d))
	}
}

// expectAccess reports a result of Layer or of Parent that differs from P16.3.
func expectAccess(t *testing.T, d api.Doc, id int) {
	t.Helper()
	var want api.Layer
	i := indexOf(d, id)
	if i >= 0 {
		want = d.Layers[i]
	}
	if got, ok := doc.Layer(d, id); ok != (i >= 0) || !isSameLayer(got, want) {
		t.Fatalf("Layer of %d returns %v, %v (%s)", id, got, ok, shownDoc(d))
	}
	group, place, isKid := 0, 0, false
	for _, l := range d.Layers {
		for n, kid := range l.Kids {
			if l.Kind == api.Group && kid == id && !isKid {
				group, place, isKid = l.ID, n, true
			}
		}
	}
	if parent, index, ok := doc.Parent(d, id); parent != group || index != place || ok != isKid {
		t.Fatalf("Parent of %d returns %d, %d, %v, not %d, %d, %v (%s)", id, parent, index, ok, group, place, isKid, shownDoc(d))
	}
}

// expectWith reports a result of With that differs from P16.5, and an argument that is no longer what it was.
func expectWith(t *testing.T, d api.Doc, l api.Layer) {
	t.Helper()
	before, layerBefore := copied(d), copiedLayer(l)
	want, err := api.Doc{}, api.ErrLayer
	if i := indexOf(d, l.ID); i >= 0 {
		changed := copied(d)
		changed.Layers[i] = copiedLayer(l)
		if err, _ = check(changed); err == api.OK {
			want = changed
		}
	}
	if got, e := doc.With(d, l); e != err || !isSame(got, want) {
		t.Fatalf("With returns the error %d, not %d, and %s (%s)", e, err, shownDoc(got), shownDoc(d))
	}
	if !isSame(before, d) || !isSameLayer(layerBefore, l) {
		t.Fatalf("With changes %s", shownDoc(d))
	}
}

// expectHead reports results of Head, Read and Key that differ from P16.6.
func expectHead(t *testing.T, l api.Layer) {
	t.Helper()
	before := copiedLayer(l)
	want := head(l)
	if got := doc.Head(l); got != want {
		t.Fatalf("Head returns %q, not %q", got, want)
	}
	if got := doc.Key(l); got != key(l) {
		t.Fatalf("Key of %q returns %x", want, got)
	}
	l.Content, l.Mask = api.Raster{}, api.Raster{}
	expectRead(t, want, l, api.OK)
	before.Content, before.Mask = api.Raster{}, api.Raster{}
	if !isSameLayer(before, l) {
		t.Fatalf("%q is changed", want)
	}
}

// expectRead reports another result of Read, or another one of the model. Empty lists have to be nil.
func expectRead(t *testing.T, s string, want api.Layer, err api.Errno) {
	t.Helper()
	if got, e := doc.Read(s); e != err || !reflect.DeepEqual(got, copiedLayer(want)) {
		t.Fatalf("Read of %q returns %#v and the error %d, not %d", s, got, e, err)
	}
	if got, e := read(s); e != err || !isSameLayer(got, want) {
		t.Fatalf("the model reads %q as %#v and the error %d, not %d", s, got, e, err)
	}
}

// expectUnreadable reports a string that Read does not reject.
func expectUnreadable(t *testing.T, s string) {
	t.Helper()
	expectRead(t, s, api.Layer{}, api.ErrForm)
}

// expectReadAsModel reports a string that Read decodes in another way than the model.
func expectReadAsModel(t *testing.T, s string) {
	t.Helper()
	want, err := read(s)
	expectRead(t, s, want, err)
	if err == api.OK && doc.Head(want) != s {
		t.Fatalf("%q is not the head of the layer that is read", s)
	}
}
