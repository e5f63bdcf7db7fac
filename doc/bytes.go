package doc

import (
	"slices"
	"strings"

	"gouache/api"
	"gouache/digest"
	"gouache/filter"
	"gouache/octet"
	"gouache/raster"
)

// The bits of the byte that serializes the fields that are true or false.
const (
	hiddenBit = 1 << iota
	clipBit
	maskBit
)

// Head serializes all fields of a layer but its rasters, be it valid or not.
func Head(l api.Layer) string {
	var head strings.Builder
	put := func(numbers ...int) {
		for _, n := range numbers {
			head.WriteString(octet.Var(n))
		}
	}
	put(l.ID, l.Kind)
	head.WriteString(octet.Text(l.Name))
	head.WriteByte(flags(l))
	a := l.Place
	put(l.Opacity, l.Mode, a.A, a.B, a.C, a.D, a.E, a.F, a.Den, l.Space, len(l.Kids))
	put(l.Kids...)
	put(l.Of)
	head.WriteString(filter.Bytes(l.Filter))
	head.Write([]byte{l.Fill.R, l.Fill.G, l.Fill.B, l.Fill.A})
	put(len(l.Path))
	for _, p := range l.Path {
		put(p.X, p.Y)
	}
	return head.String()
}

// Read returns the layer without rasters that has this head.
func Read(s string) (api.Layer, api.Errno) {
	l := decode(octet.Read(s))
	// Of the head of a layer, just this layer is decoded. What is decoded of any other string, be it too short, too long or redundant, has another head.
	if Head(l) != s {
		return api.Layer{}, api.ErrForm
	}
	return l, api.OK
}

// Key returns a digest of a layer with its rasters.
func Key(l api.Layer) api.Digest {
	return digest.Join(Head(l), string(raster.Key(l.Content)), string(raster.Key(l.Mask)))
}

// Equal reports whether two documents are equal in all fields, be they valid or not.
func Equal(a, b api.Doc) bool {
	return a.Root == b.Root && a.Next == b.Next &&
		slices.EqualFunc(a.Spaces, b.Spaces, equalSpaces) && slices.EqualFunc(a.Layers, b.Layers, equalLayers)
}

// flags returns the byte that serializes the fields that are true or false.
func flags(l api.Layer) byte {
	var sum byte
	add := func(isSet bool, bit byte) {
		if isSet {
			sum += bit
		}
	}
	add(l.Hidden, hiddenBit)
	add(l.Clip, clipBit)
	add(l.HasMask, maskBit)
	return sum
}

// decode returns the layer whose head a reader reads. If it fails, or does not read all of its string, this is not the head of a layer.
func decode(r *octet.Reader) api.Layer {
	l := api.Layer{ID: r.Var(), Kind: r.Var(), Name: r.Text()}
	set := r.Num(1)
	l.Hidden, l.Clip, l.HasMask = set&hiddenBit > 0, set&clipBit > 0, set&maskBit > 0
	l.Opacity, l.Mode = r.Var(), r.Var()
	l.Place = api.Affine{A: r.Var(), B: r.Var(), C: r.Var(), D: r.Var(), E: r.Var(), F: r.Var(), Den: r.Var()}
	l.Space = r.Var()
	l.Kids = decodeList(r, r.Var)
	l.Of = r.Var()
	l.Filter = api.Filter{Kind: r.Var(), Radius: r.Var(), Kernel: decodeList(r, r.Var), Div: r.Var(), Value: r.Var(), Curve: decodeList(r, r.Var)}
	channel := func() uint8 { return uint8(r.Num(1)) }
	l.Fill = api.Pixel{R: channel(), G: channel(), B: channel(), A: channel()}
	l.Path = decodeList(r, func() api.Point { return api.Point{X: r.Var(), Y: r.Var()} })
	return l
}

// decodeList returns the elements of a list that follow their number. It ends with the string, because the number may be anything.
func decodeList[Element any](r *octet.Reader, next func() Element) []Element {
	var list []Element
	for n := r.Var(); len(list) < n && !r.Failed(); {
		list = append(list, next())
	}
	return list
}

// equalSpaces reports whether two colour spaces are equal in all fields.
func equalSpaces(a, b api.Space) bool {
	equalCurves := func(u, v api.Curve) bool { return slices.Equal(u, v) }
	return slices.EqualFunc(a.Curve[:], b.Curve[:], equalCurves) && a.To == b.To && a.From == b.From
}

// equalLayers reports whether two layers are equal in all fields.
func equalLayers(a, b api.Layer) bool {
	// No two layers that differ in another field than the rasters have the same head.
	return Head(a) == Head(b) && slices.Equal(a.Content.Tiles, b.Content.Tiles) && slices.Equal(a.Mask.Tiles, b.Mask.Tiles)
}
