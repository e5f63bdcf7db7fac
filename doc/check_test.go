package doc_test

import (
	"slices"
	"strings"
	"testing"

	"gouache/api"
	"gouache/colour"
)

// change is a change of a document.
type change = func(d *api.Doc)

// P16.1: documents without defects, and the examples of the chapter.
func TestCheckOfValidDocuments(t *testing.T) {
	for _, d := range validDocs() {
		expectCheck(t, d, api.OK, 0)
	}
	d := docOf(group(1))
	d.Root = 2
	expectCheck(t, d, api.ErrLayer, 2)
	expectCheck(t, docOf(group(1, 2), clone(2, 1)), api.ErrCycle, 1)
	expectCheck(t, api.Doc{}, api.ErrMany, 0)
	expectCheck(t, api.Doc{Next: 1}, api.ErrLayer, 0)
}

// P16.1, step 1: the numbers of spaces and of layers, and the next ID.
func TestCheckOfLimits(t *testing.T) {
	for _, n := range []int{0, 1, 7, 8} {
		expectCheck(t, spaced(n), api.OK, 0)
	}
	for _, n := range []int{9, 10, 16, 100} {
		expectCheck(t, spaced(n), api.ErrMany, 0)
	}
	for _, n := range []int{1, 2, 39, 40} {
		expectCheck(t, flat(n), api.OK, 0)
	}
	for _, n := range []int{41, 42, 100, 1000} {
		expectCheck(t, flat(n), api.ErrMany, 0)
	}
	// These have no layers, or other layers than their next ID allows, so that another step finds the defect if this one does not.
	for _, next := range []int{0, -1, 1<<20 + 1, 1 << 21, 1 << 32, 1<<32 + 9, least, greatest} {
		for _, d := range []api.Doc{sample(), {Root: 7}} {
			d.Next = next
			expectCheck(t, d, api.ErrMany, 0)
		}
	}
	expectCheck(t, api.Doc{Root: 7, Next: 1}, api.ErrLayer, 7)
	expectCheck(t, api.Doc{Root: 7, Next: 1 << 20}, api.ErrLayer, 7)
	expectCheck(t, with(sample(), func(d *api.Doc) { d.Next = 1 }), api.ErrLayer, 2)
	expectCheck(t, with(sample(), func(d *api.Doc) { d.Next = 2 }), api.ErrLayer, 2)
	expectCheck(t, with(sample(), func(d *api.Doc) { d.Next = 21 }), api.OK, 0)
	expectCheck(t, with(sample(), func(d *api.Doc) { d.Next = 1 << 20 }), api.OK, 0)
	last := docOf(group(1, 1<<20-1), paint(1<<20-1))
	expectCheck(t, last, api.OK, 0)
	last = docOf(group(1, 1<<20), paint(1<<20))
	expectCheck(t, last, api.ErrMany, 0)
}

// P16.1, step 2: spaces that are not valid, at each place.
func TestCheckOfSpaces(t *testing.T) {
	steep, falling, long := square(), square(), square()
	steep.To[4] = 1 << 17
	falling.Curve[1] = api.Curve{5, 4}
	long.Curve[2] = make(api.Curve, 258)
	for _, s := range []api.Space{{}, steep, falling, long} {
		if colour.Valid(s) {
			t.Fatalf("%v is valid", s)
		}
		for i := range 8 {
			d := spaced(8)
			d.Spaces[i] = s
			expectCheck(t, d, api.ErrSpace, 0)
		}
		expectCheck(t, api.Doc{Spaces: []api.Space{s}, Root: 7, Next: 1}, api.ErrSpace, 0)
	}
	// A space that nothing uses counts as well.
	expectCheck(t, with(docOf(group(1)), func(d *api.Doc) { d.Spaces = []api.Space{{}} }), api.ErrSpace, 0)
}

// P16.1, step 3: IDs of one layer, and of several.
func TestCheckOfIDs(t *testing.T) {
	for _, x := range []struct {
		ids  []int
		next int
		want int
	}{
		{[]int{0}, 5, 0}, {[]int{-1}, 5, -1}, {[]int{least}, 5, least}, {[]int{greatest}, 5, greatest},
		{[]int{5}, 5, 5}, {[]int{6}, 5, 6}, {[]int{1}, 1, 1},
		{[]int{1, 1}, 5, 1}, {[]int{2, 1}, 5, 1}, {[]int{2, 2}, 5, 2}, {[]int{3, 4, 4}, 5, 4}, {[]int{3, 4, 3}, 5, 3}, {[]int{1, 2, 4, 3}, 5, 3},
		{[]int{1, 2, 5}, 5, 5}, {[]int{1, 2, 9, 3}, 5, 9}, {[]int{1, 0}, 5, 0}, {[]int{1, -7}, 5, -7}, {[]int{-7, 0, 1}, 5, -7}, {[]int{0, 1}, 5, 0}, {[]int{1, least, greatest}, 5, least},
		// The second defect does not count, even if the layer before it has a defect, too.
		{[]int{3, 1, 2}, 5, 1}, {[]int{3, 2, 1}, 5, 2},
	} {
		d := api.Doc{Root: x.ids[0], Next: x.next}
		for _, id := range x.ids {
			d.Layers = append(d.Layers, group(id))
		}
		expectCheck(t, d, api.ErrLayer, x.want)
	}
	expectCheck(t, docOf(group(1, 2), paint(2)), api.OK, 0)
	expectCheck(t, docOf(group(7, 9), paint(9)), api.OK, 0)
	expectCheck(t, with(docOf(group(7, 9), paint(9)), func(d *api.Doc) { d.Next = 1000 }), api.OK, 0)
}

// P16.1, step 4: roots that are no groups.
func TestCheckOfRoot(t *testing.T) {
	for _, root := range []int{0, -1, -5, 1, 4, 6, 8, 21, 22, 23, 1 << 32, 1<<32 + 5, least, greatest, 2, 3, 9, 11, 12, 14, 20} {
		expectCheck(t, with(sample(), func(d *api.Doc) { d.Root = root }), api.ErrLayer, root)
	}
	expectCheck(t, api.Doc{Next: 9}, api.ErrLayer, 0)
	for kind := -1; kind <= 7; kind++ {
		if kind != api.Group {
			expectCheck(t, api.Doc{Root: 1, Next: 9, Layers: []api.Layer{ofKind(1, kind, 1)}}, api.ErrLayer, 1)
			expectCheck(t, api.Doc{Root: 1, Next: 9, Layers: []api.Layer{layer(1, kind)}}, api.ErrLayer, 1)
		}
	}
	// Another group is the root, but occurs as a kid, as the first one in order does not.
	expectCheck(t, with(sample(), func(d *api.Doc) { d.Root = 7 }), api.ErrLayer, 5)
}

// P16.1, step 5: kinds, and names.
func TestCheckOfKindsAndNames(t *testing.T) {
	for _, kind := range []int{0, 6, -1, -5, 7, 256 + 1, 1 << 32, 1<<32 + 1, least, greatest} {
		expectCheck(t, docOf(group(1, 2), layer(2, kind)), api.ErrKind, 2)
		for _, l := range []api.Layer{paint(2), adjust(2), clone(2, 1), shape(2)} {
			l.Kind = kind
			expectCheck(t, docOf(group(1, 2), l), api.ErrKind, 2)
		}
	}
	for kind := 1; kind <= 5; kind++ {
		expectCheck(t, docOf(group(1, 2, 3), paint(2), ofKind(3, kind, 2)), api.OK, 0)
	}
	named := func(name string) api.Doc {
		return with(sample(), func(d *api.Doc) { at(d, 9).Name = name })
	}
	for _, name := range []string{"", "a", "z", "0", "9", "-", "_", "abcdefghijkl", "mnopqrstuvwx", "yz0123456789", "------------", "a-b_c"} {
		expectCheck(t, named(name), api.OK, 0)
	}
	for _, name := range []string{"abcdefghijklm", strings.Repeat("a", 13), strings.Repeat("a", 256), strings.Repeat("a", 256+12), strings.Repeat("-", 1<<20), "\u00e9", "ab\u00e9", "e\u0301", "\xff", "a\xff", "\x80b", "A", "Z", "a b", " ", "a\x00", "\x00", "\n", "a\n", "a.b", "a/b"} {
		expectCheck(t, named(name), api.ErrName, 9)
	}
	for b := range 256 {
		c := string([]byte{byte(b)})
		want, id := api.ErrName, 9
		if strings.Contains("abcdefghijklmnopqrstuvwxyz0123456789-_", c) {
			want, id = api.OK, 0
		}
		for _, name := range []string{c, "a" + c, c + "a", "abcde" + c + "ghijkl", "abcdefghijk" + c} {
			expectCheck(t, named(name), want, id)
		}
		expectCheck(t, named("abcdefghijkl"+c), api.ErrName, 9)
	}
}

// P16.1, step 5: opacities, modes and masks, in layers of all kinds.
func TestCheckOfNumbersAndMasks(t *testing.T) {
	for _, id := range []int{2, 3, 5, 7, 9, 11, 12, 14, 20} {
		expect := func(change func(l *api.Layer), err api.Errno) {
			t.Helper()
			where := 0
			if err != api.OK {
				where = id
			}
			expectCheck(t, with(sample(), func(d *api.Doc) { change(at(d, id)) }), err, where)
		}
		for _, n := range []int{0, 1, 254, 255} {
			expect(func(l *api.Layer) { l.Opacity = n }, api.OK)
		}
		for _, n := range []int{-1, 256, -255, 257, 1<<32 + 5, least, greatest} {
			expect(func(l *api.Layer) { l.Opacity = n }, api.ErrArg)
		}
		for n := range 16 {
			expect(func(l *api.Layer) { l.Mode = n }, api.OK)
		}
		for _, n := range []int{-1, 16, 17, 255, 256, 1 << 32, least, greatest} {
			expect(func(l *api.Layer) { l.Mode = n }, api.ErrArg)
		}
		for _, n := range []int{1, 2, 5, 1024} {
			expect(func(l *api.Layer) { l.HasMask, l.Mask = true, row(n) }, api.OK)
			expect(func(l *api.Layer) { l.HasMask, l.Mask = false, row(n) }, api.ErrArg)
		}
		expect(func(l *api.Layer) { l.HasMask, l.Mask = true, api.Raster{} }, api.OK)
		expect(func(l *api.Layer) { l.HasMask, l.Mask = false, api.Raster{} }, api.OK)
		expect(func(l *api.Layer) { l.HasMask, l.Mask = false, api.Raster{Tiles: []api.TileAt{}} }, api.OK)
		for _, r := range invalidRasters() {
			expect(func(l *api.Layer) { l.HasMask, l.Mask = true, r }, api.ErrArg)
			expect(func(l *api.Layer) { l.HasMask, l.Mask = false, r }, api.ErrArg)
		}
		expect(func(l *api.Layer) { l.Hidden, l.Clip = !l.Hidden, !l.Clip }, api.OK)
	}
}

// setting is a value of a special field.
type setting struct {
	field string
	set   func(l *api.Layer)
}

// settings returns values of all special fields, among them ones that are valid where the field is used.
func settings() []setting {
	all := []setting{
		{"Place", func(l *api.Layer) { l.Place = identity() }},
		{"Place", func(l *api.Layer) { l.Place.A = 1 }}, {"Place", func(l *api.Layer) { l.Place.B = -1 }}, {"Place", func(l *api.Layer) { l.Place.C = 1 }}, {"Place", func(l *api.Layer) { l.Place.D = 5 }},
		{"Place", func(l *api.Layer) { l.Place.E = 1 }}, {"Place", func(l *api.Layer) { l.Place.F = least }}, {"Place", func(l *api.Layer) { l.Place.Den = 1 }},
		{"Space", func(l *api.Layer) { l.Space = 1 }}, {"Space", func(l *api.Layer) { l.Space = -1 }}, {"Space", func(l *api.Layer) { l.Space = 1 << 32 }},
		{"Kids", func(l *api.Layer) { l.Kids = []int{2} }}, {"Kids", func(l *api.Layer) { l.Kids = []int{0} }}, {"Kids", func(l *api.Layer) { l.Kids = make([]int, 1000) }},
		{"Of", func(l *api.Layer) { l.Of = 2 }}, {"Of", func(l *api.Layer) { l.Of = -1 }}, {"Of", func(l *api.Layer) { l.Of = 1 << 32 }},
		{"Filter", func(l *api.Layer) { l.Filter.Kind = api.Invert }}, {"Filter", func(l *api.Layer) { l.Filter.Kind = 100 }}, {"Filter", func(l *api.Layer) { l.Filter.Radius = 1 }},
		{"Filter", func(l *api.Layer) { l.Filter.Kernel = []int{0} }}, {"Filter", func(l *api.Layer) { l.Filter.Div = -1 }}, {"Filter", func(l *api.Layer) { l.Filter.Value = 1 }}, {"Filter", func(l *api.Layer) { l.Filter.Curve = api.Curve{0} }},
		{"Fill", func(l *api.Layer) { l.Fill.R = 1 }}, {"Fill", func(l *api.Layer) { l.Fill.G = 255 }}, {"Fill", func(l *api.Layer) { l.Fill.B = 1 }}, {"Fill", func(l *api.Layer) { l.Fill.A = 128 }},
		{"Path", func(l *api.Layer) { l.Path = path(0, 0, 4, 0, 0, 4) }}, {"Path", func(l *api.Layer) { l.Path = path(0, 0) }}, {"Path", func(l *api.Layer) { l.Path = path(least, 0) }},
		{"Content", func(l *api.Layer) { l.Content = row(1) }}, {"Content", func(l *api.Layer) { l.Content = row(1025) }}, {"Content", func(l *api.Layer) { l.Content = api.Raster{Tiles: make([]api.TileAt, 1)} }},
	}
	return all
}

// P16.1, step 5: each special field set in each kind that does not use it, be it to a valid value or not.
func TestCheckOfSpecialFields(t *testing.T) {
	used := map[int][]string{api.Paint: {"Place", "Space", "Content"}, api.Group: {"Kids"}, api.Adjust: {"Filter"}, api.Clone: {"Place", "Of"}, api.Shape: {"Path", "Fill"}}
	unused := 0
	for kind := 1; kind <= 5; kind++ {
		for _, x := range settings() {
			if slices.Contains(used[kind], x.field) {
				continue
			}
			l := ofKind(3, kind, 2)
			x.set(&l)
			d := docOf(group(1, 2, 3), paint(2), l)
			d.Spaces = []api.Space{square()}
			expectCheck(t, d, api.ErrKind, 3)
			unused++
		}
		l := ofKind(3, kind, 2)
		l.Fill = of(0, 0, 0, 0)
		// Empty lists that are not nil are nothing, except where something is needed.
		if kind != api.Shape {
			l.Path = []api.Point{}
		}
		l.Kids, l.Filter.Kernel, l.Filter.Curve, l.Content.Tiles, l.Mask.Tiles = []int{}, []int{}, api.Curve{}, []api.TileAt{}, []api.TileAt{}
		expectCheck(t, docOf(group(1, 2, 3), paint(2), l), api.OK, 0)
	}
	if unused < 100 {
		t.Errorf("only %d fields are set", unused)
	}
}

// P16.1, step 5: placements of the kinds that use them.
func TestCheckOfPlaces(t *testing.T) {
	for _, l := range []api.Layer{paint(3), clone(3, 2)} {
		placed := func(a api.Affine) api.Doc {
			l.Place = a
			return docOf(group(1, 2, 3), paint(2), l)
		}
		for _, a := range []api.Affine{identity(), {A: 1, E: 1, Den: 4096}, {B: -4096, D: 4096, C: 1 << 28, F: -1 << 28, Den: 7}, {A: 2, E: 2, Den: 2}} {
			expectCheck(t, placed(a), api.OK, 0)
		}
		for _, a := range []api.Affine{{}, {A: 1, E: 1}, {A: 1, E: 1, Den: -1}, {A: 1, E: 1, Den: 4097}, {A: 1, Den: 1}, {A: 1, B: 2, D: 2, E: 4, Den: 1}, {A: 4097, E: 1, Den: 1}, {A: 1, E: 1, C: 1<<28 + 1, Den: 1}, {A: least, B: least, C: least, D: least, E: least, F: least, Den: least}} {
			expectCheck(t, placed(a), api.ErrPlace, 3)
		}
	}
}

// P16.1, step 5: numbers of spaces.
func TestCheckOfSpaceNumbers(t *testing.T) {
	for spaces := range 9 {
		for _, n := range []int{-1, 0, 1, spaces - 1, spaces, spaces + 1, spaces + 256, 8, 9, 1 << 32, least, greatest} {
			d := spaced(spaces)
			at(&d, 2).Space = 0
			at(&d, 12).Space = n
			if n >= 0 && n <= spaces {
				expectCheck(t, d, api.OK, 0)
			} else {
				expectCheck(t, d, api.ErrSpace, 12)
			}
		}
	}
}

// P16.1, step 5: contents, filters and paths of the kinds that use them.
func TestCheckOfContentsFiltersAndPaths(t *testing.T) {
	single := func(l api.Layer) api.Doc { return docOf(group(1, 2), l) }
	for _, r := range []api.Raster{{}, row(1), row(1024), solid(-8192, 8191, of(0, 0, 0, 1))} {
		l := paint(2)
		l.Content = r
		expectCheck(t, single(l), api.OK, 0)
	}
	for _, r := range invalidRasters() {
		l := paint(2)
		l.Content = r
		expectCheck(t, single(l), api.ErrArg, 2)
	}
	filtered := func(f api.Filter) api.Doc {
		l := adjust(2)
		l.Filter = f
		return single(l)
	}
	for _, f := range []api.Filter{{Kind: api.Median, Radius: 3}, {Kind: api.Offset, Radius: -3, Value: 3}, {Kind: api.Convolve, Kernel: []int{-4096}, Div: 1 << 20}, {Kind: api.Tone, Curve: api.Curve{9, 9}}, {Kind: api.Threshold, Value: 256}, {Kind: api.Invert, Kernel: []int{}, Curve: api.Curve{}}} {
		expectCheck(t, filtered(f), api.OK, 0)
	}
	for _, f := range []api.Filter{{}, {Kind: 9}, {Kind: -1}, {Kind: api.Median, Radius: 4}, {Kind: api.Invert, Value: 1}, {Kind: api.Invert, Kernel: []int{0}}, {Kind: api.Tone}, {Kind: api.Tone, Curve: api.Curve{9, 8}}, {Kind: api.Convolve, Kernel: []int{1}}, {Kind: api.Threshold, Value: 257}, {Kind: least, Radius: least, Div: least, Value: least}} {
		expectCheck(t, filtered(f), api.ErrArg, 2)
	}
	polygon := func(points []api.Point) api.Doc {
		l := shape(2)
		l.Path = points
		return single(l)
	}
	for _, points := range [][]api.Point{path(0, 0, 0, 0, 0, 0), path(-65536, 65536, 1, 2, 3, 4), make([]api.Point, 64)} {
		expectCheck(t, polygon(points), api.OK, 0)
	}
	for _, points := range [][]api.Point{nil, {}, path(0, 0), path(0, 0, 1, 1), make([]api.Point, 65), path(-65537, 0, 1, 1, 2, 2), path(0, 0, 1, 1, 2, 65537), path(least, greatest, 0, 0, 0, 0), make([]api.Point, 100000)} {
		expectCheck(t, polygon(points), api.ErrArg, 2)
	}
	for _, p := range []api.Pixel{{}, of(1, 2, 3, 0), of(255, 255, 255, 255)} {
		l := shape(2)
		l.Fill = p
		expectCheck(t, single(l), api.OK, 0)
	}
}
