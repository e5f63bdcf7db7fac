package doc_test

import (
	"strings"
	"testing"

	"gouache/api"
	"gouache/doc"
	"gouache/octet"
)

// negative is the encoding of -1.
const negative = "\xff\xff\xff\xff\xff\xff\xff\xff\xff\x01"

// full returns a layer of which every field, used by its kind or not, has another value.
func full() api.Layer {
	return api.Layer{
		ID: 1, Kind: 2, Name: "abc", Hidden: true, HasMask: true, Opacity: 3, Mode: 4,
		Place: api.Affine{A: 5, B: 6, C: 7, D: 8, E: 9, F: 10, Den: 11}, Space: 12, Kids: []int{13, 14}, Of: 15,
		Filter: api.Filter{Kind: 16, Radius: 17, Kernel: []int{18, 19, 20}, Div: 21, Value: 22, Curve: api.Curve{23}},
		Fill:   of(24, 25, 26, 27), Path: path(28, 29, 30, 31), Content: row(2), Mask: row(3),
	}
}

// P16.6: the fields one after another.
func TestHead(t *testing.T) {
	for _, x := range []struct {
		l    api.Layer
		want string
	}{
		{api.Layer{}, strings.Repeat("\x00", 27)},
		{full(), "\x01\x02\x03abc\x05\x03\x04\x05\x06\x07\x08\x09\x0a\x0b\x0c\x02\x0d\x0e\x0f\x10\x11\x03\x12\x13\x14\x15\x16\x01\x17\x18\x19\x1a\x1b\x02\x1c\x1d\x1e\x1f"},
		{api.Layer{ID: -1, Kind: 300, Clip: true, Opacity: 255, Space: -1, Of: -1}, negative + "\xac\x02\x00\x02\xff\x01\x00" + strings.Repeat("\x00", 7) + negative + "\x00" + negative + strings.Repeat("\x00", 11)},
		{group(1, 300, -1), "\x01\x02\x00\x00\xff\x01\x00" + strings.Repeat("\x00", 8) + "\x02\xac\x02" + negative + strings.Repeat("\x00", 12)},
		{doc.Default(api.Paint), "\x00\x01\x00\x00\xff\x01\x00\x01\x00\x00\x00\x01\x00\x01" + strings.Repeat("\x00", 14)},
	} {
		if got := doc.Head(x.l); got != x.want {
			t.Errorf("Head returns %q, not %q", got, x.want)
		}
		expectHead(t, x.l)
	}
}

// P16.6: all eight sums of the fields that are true or false.
func TestHeadOfFlags(t *testing.T) {
	for n := range 8 {
		l := full()
		l.Hidden, l.Clip, l.HasMask = n&1 > 0, n&2 > 0, n&4 > 0
		expectHead(t, l)
		if got := doc.Head(l)[6]; int(got) != n {
			t.Errorf("the fields %v, %v, %v are the byte %d", l.Hidden, l.Clip, l.HasMask, got)
		}
	}
}

// numberFields returns the places of all numbers in a layer that is not empty.
func numberFields(l *api.Layer) []*int {
	fields := []*int{
		&l.ID, &l.Kind, &l.Opacity, &l.Mode, &l.Place.A, &l.Place.B, &l.Place.C, &l.Place.D, &l.Place.E, &l.Place.F, &l.Place.Den, &l.Space, &l.Of,
		&l.Filter.Kind, &l.Filter.Radius, &l.Filter.Div, &l.Filter.Value,
	}
	for _, list := range [][]int{l.Kids, l.Filter.Kernel, l.Filter.Curve} {
		for i := range list {
			fields = append(fields, &list[i])
		}
	}
	for i := range l.Path {
		fields = append(fields, &l.Path[i].X, &l.Path[i].Y)
	}
	return fields
}

// P16.6: every number with values of all sizes, the least and the greatest among them, in layers of all kinds, and the names and channels.
func TestHeadOfLimits(t *testing.T) {
	for _, l := range append(sample().Layers, full(), api.Layer{}) {
		for i := range numberFields(&l) {
			for _, n := range numbers {
				changed := copiedLayer(l)
				*numberFields(&changed)[i] = n
				expectHead(t, changed)
			}
		}
	}
	for _, name := range []string{"", "a", "Name", "\x00", "\xff\xfe", "caf\u00e9", strings.Repeat("x", 127), strings.Repeat("y", 128), strings.Repeat("z", 100000)} {
		l := full()
		l.Name = name
		expectHead(t, l)
	}
	for channel := range 4 {
		for _, v := range []byte{0, 1, 127, 128, 255} {
			var c [4]byte
			c[channel] = v
			l := full()
			l.Fill = of(c[0], c[1], c[2], c[3])
			expectHead(t, l)
		}
	}
}

// P16.6: lists of many lengths.
func TestHeadOfLists(t *testing.T) {
	for _, n := range []int{0, 1, 2, 127, 128, 129, 1000, 20000} {
		list, points := make([]int, n), make([]api.Point, n)
		for i := range n {
			list[i], points[i] = numbers[i%len(numbers)], api.Point{X: i, Y: -i}
		}
		for _, change := range []func(l *api.Layer){
			func(l *api.Layer) { l.Kids = list }, func(l *api.Layer) { l.Filter.Kernel = list }, func(l *api.Layer) { l.Filter.Curve = list }, func(l *api.Layer) { l.Path = points },
			func(l *api.Layer) { l.Kids, l.Filter.Kernel, l.Filter.Curve, l.Path = list, list, list, points },
		} {
			l := full()
			change(&l)
			expectHead(t, l)
		}
	}
}

// P16.6: Content and Mask are no part of the head.
func TestHeadWithoutRasters(t *testing.T) {
	l := full()
	want := doc.Head(l)
	for _, r := range append(invalidRasters(), api.Raster{}, row(1)) {
		l.Content = r
		l.Mask = row(4)
		if doc.Head(l) != want {
			t.Errorf("the head changes with the content %v", r)
		}
		l.Content, l.Mask = row(4), r
		if doc.Head(l) != want {
			t.Errorf("the head changes with the mask %v", r)
		}
	}
}

// P16.6, P16.8: the layers of documents without a visible order.
func TestHeadOfManyLayers(t *testing.T) {
	for seed := range 300 {
		for _, l := range scattered(seed).Layers {
			expectHead(t, l)
		}
	}
}

// P16.6: every head that has been shortened at the end or at the beginning, or lengthened.
func TestReadOfOtherLengths(t *testing.T) {
	expectUnreadable(t, "")
	for _, l := range append(sample().Layers, full(), api.Layer{}) {
		s := doc.Head(l)
		for n := range len(s) {
			expectUnreadable(t, s[:n])
			expectReadAsModel(t, s[n:])
		}
		for _, more := range []string{"\x00", "\x01", "\x80", s, strings.Repeat("\x00", 1000)} {
			expectUnreadable(t, s+more)
			expectReadAsModel(t, more+s)
		}
	}
}

// P16.6: encodings of numbers that are longer than necessary, or too long, in place of each number.
func TestReadOfRedundantForms(t *testing.T) {
	// The layer has only numbers that are encoded with one byte, so that each byte but those of the name, the flags and the fill is a number.
	s := doc.Head(full())
	others := map[int]bool{3: true, 4: true, 5: true, 6: true, 31: true, 32: true, 33: true, 34: true}
	for i := range len(s) {
		if others[i] {
			continue
		}
		for _, redundant := range []string{string([]byte{s[i] | 0x80, 0}), string([]byte{s[i] | 0x80, 0x80, 0}), string([]byte{s[i] | 0x80}) + strings.Repeat("\x80", 8) + "\x00", string([]byte{s[i] | 0x80}) + strings.Repeat("\x80", 8) + "\x02", strings.Repeat("\xff", 9) + "\x02", strings.Repeat("\xff", 10) + "\x01"} {
			expectUnreadable(t, s[:i]+redundant+s[i+1:])
		}
	}
	l := full()
	l.Fill, l.Name = of(0x80, 0, 0x80, 0), "\x80\x00\x01"
	expectHead(t, l)
}

// P16.6: flags of more than 7.
func TestReadOfFlags(t *testing.T) {
	s := doc.Head(full())
	for n := range 256 {
		changed := s[:6] + string([]byte{byte(n)}) + s[7:]
		if n > 7 {
			expectUnreadable(t, changed)
			continue
		}
		l := full()
		l.Content, l.Mask = api.Raster{}, api.Raster{}
		l.Hidden, l.Clip, l.HasMask = n%2 == 1, n/2%2 == 1, n >= 4
		expectRead(t, changed, l, api.OK)
	}
}

// P16.6: lengths of the name and of the lists that are negative, or greater than what follows.
func TestReadOfLengths(t *testing.T) {
	s := doc.Head(full())
	for i, old := range map[int]byte{2: 3, 17: 2, 23: 3, 29: 1, 35: 2} {
		if s[i] != old {
			t.Fatalf("byte %d of the head is %d", i, s[i])
		}
		for _, n := range []int{-1, -2, least, greatest, 1 << 32, 1<<62 + 2, 1<<63 - 2, 100, 255, 1 << 20, len(s), len(s) - i, len(s) - i - 1} {
			expectUnreadable(t, s[:i]+octet.Var(n)+s[i+1:])
			expectUnreadable(t, s[:i]+octet.Var(n))
			expectUnreadable(t, s[:i]+octet.Var(n)+strings.Repeat("\x00", 5000))
		}
		for n := range 60 {
			expectReadAsModel(t, s[:i]+octet.Var(n)+s[i+1:])
		}
	}
	// A number of points that wraps around to the right number of bytes.
	expectUnreadable(t, s[:35]+octet.Var(1<<62+2)+s[36:])
	expectUnreadable(t, s[:35]+octet.Var(least+2)+s[36:])
}

// P16.6: heads of layers that are not valid are read as well.
func TestReadOfInvalidLayers(t *testing.T) {
	for _, x := range damages() {
		for _, l := range with(sample(), x.change).Layers {
			l.Content, l.Mask = api.Raster{}, api.Raster{}
			expectRead(t, doc.Head(l), l, api.OK)
		}
	}
	for _, l := range []api.Layer{{Kind: 99, Name: strings.Repeat("X", 500), Opacity: -7, Mode: greatest}, {Place: api.Affine{Den: least}, Space: -9, Kids: []int{0, 0, 0}, Of: least}, {Filter: api.Filter{Kind: -1, Kernel: []int{greatest}, Curve: api.Curve{least, 0}}, Path: path(least, greatest)}} {
		expectRead(t, doc.Head(l), l, api.OK)
	}
}

// P16.6: each byte of a head replaced by others.
func TestReadOfChangedBytes(t *testing.T) {
	for _, l := range append(sample().Layers, full(), api.Layer{}) {
		s := doc.Head(l)
		for i := range len(s) {
			for _, b := range []byte{0, 1, 2, 3, 7, 8, 127, 128, 129, 255, s[i] + 1, s[i] - 1, s[i] ^ 0x80} {
				expectReadAsModel(t, s[:i]+string([]byte{b})+s[i+1:])
			}
			expectReadAsModel(t, s[:i]+s[i+1:])
			expectReadAsModel(t, s[:i]+"\x01"+s[i:])
		}
	}
}

// P16.6: strings that nobody has encoded.
func TestReadOfAnyStrings(t *testing.T) {
	for _, s := range []string{"a", "gouache", strings.Repeat("\x00", 26), strings.Repeat("\x00", 28), strings.Repeat("\x80", 100), strings.Repeat("\xff", 100), strings.Repeat("\x01", 40), strings.Repeat("\x00", 1<<20), strings.Repeat("\x02", 1<<20)} {
		expectUnreadable(t, s)
	}
	readable := 0
	for seed := range 5000 {
		next := scatter(seed)
		var s []byte
		for range 20 + next(20) {
			s = append(s, byte(next(3)))
		}
		expectReadAsModel(t, string(s))
		if _, err := read(string(s)); err == api.OK {
			readable++
		}
	}
	if readable < 50 {
		t.Errorf("only %d strings are readable", readable)
	}
}
