package stroke_test

import (
	"math/big"
	"slices"
	"testing"

	"gouache/api"
	"gouache/pixel"
	"gouache/raster"
	"gouache/stroke"
)

// round returns the greatest integer that is not above n / d + 1/2.
func round(n, d int) int {
	sum := new(big.Rat).Add(big.NewRat(int64(n), int64(d)), big.NewRat(1, 2))
	// The denominator of a rational number is positive, so that this division rounds down.
	return int(new(big.Int).Div(sum.Num(), sum.Denom()).Int64())
}

// lengths returns the length of each segment.
func lengths(points []api.StrokePoint) []int {
	var all []int
	for i := 1; i < len(points); i++ {
		dx, dy := int64(points[i].X-points[i-1].X), int64(points[i].Y-points[i-1].Y)
		sum := new(big.Int).Add(new(big.Int).Mul(big.NewInt(dx), big.NewInt(dx)), new(big.Int).Mul(big.NewInt(dy), big.NewInt(dy)))
		all = append(all, int(sum.Sqrt(sum).Int64()))
	}
	return all
}

// sum returns the sum of lengths.
func sum(all []int) int {
	total := 0
	for _, n := range all {
		total += n
	}
	return total
}

// distances returns the distances of the dabs of a stroke with several points, but not more of them than a valid stroke has dabs, and one.
func distances(s api.Stroke) []int {
	var all []int
	length := sum(lengths(s.Points))
	for k := 0; len(all) < 1025 && s.Phase+k*s.Spacing < length; k++ {
		all = append(all, s.Phase+k*s.Spacing)
	}
	return all
}

// isValid reports whether a stroke is valid, as P14.1 says it.
func isValid(s api.Stroke) bool {
	if len(s.Points) < 1 || len(s.Points) > 64 || s.Radius < 1 || s.Radius > 256 || s.Spacing < 1 || s.Spacing > 4096 || s.Phase < 0 || s.Phase > 1048575 {
		return false
	}
	for _, p := range s.Points {
		if min(p.X, p.Y) < lowest || max(p.X, p.Y) > highest || p.Pressure < 0 || p.Pressure > 255 {
			return false
		}
	}
	return len(distances(s)) <= 1024
}

// dabAt returns the dab at a distance along a stroke, as P14.2 says it.
func dabAt(s api.Stroke, distance int) api.Dab {
	all := lengths(s.Points)
	n := 0
	for sum(all[:n+1]) <= distance {
		n++
	}
	a, b, e := s.Points[n], s.Points[n+1], distance-sum(all[:n])
	pressure := a.Pressure + round((b.Pressure-a.Pressure)*e, all[n])
	return dab(a.X+round((b.X-a.X)*e, all[n]), a.Y+round((b.Y-a.Y)*e, all[n]), round(s.Radius*pressure, 255))
}

// dabsOf returns what Dabs returns, as P14.2 says it.
func dabsOf(s api.Stroke) []api.Dab {
	switch {
	case !isValid(s):
		return nil
	case len(s.Points) == 1:
		p := s.Points[0]
		return []api.Dab{dab(p.X, p.Y, round(s.Radius*p.Pressure, 255))}
	}
	var all []api.Dab
	for _, distance := range distances(s) {
		all = append(all, dabAt(s, distance))
	}
	return all
}

// coverage returns what Cover returns, as P14.3 says it.
func coverage(d api.Dab, x, y int) int {
	if d.Radius < 1 || d.Radius > 256 || min(d.X, d.Y) < lowest || max(d.X, d.Y) > highest || min(x, y) < -80000 || max(x, y) > 80000 {
		return 0
	}
	n := 0
	for _, i := range []int{2, 6, 10, 14} {
		for _, j := range []int{2, 6, 10, 14} {
			dx, dy := 16*x+i-d.X, 16*y+j-d.Y
			if dx*dx+dy*dy <= d.Radius*d.Radius {
				n++
			}
		}
	}
	return round(255*n, 16)
}

// painted returns what Paint returns, as P14.4 says it, from the pixels of the raster without its tiles.
func painted(r api.Raster, s api.Stroke) (api.Raster, api.Errno) {
	if !isValid(s) {
		return api.Raster{}, api.ErrArg
	}
	pixels := map[api.Point]api.Pixel{}
	if raster.Valid(r) {
		for _, t := range r.Tiles {
			for i, p := range t.Tile {
				pixels[api.Point{X: 8*t.Pos.X + i%8, Y: 8*t.Pos.Y + i/8}] = p
			}
		}
	}
	for _, d := range dabsOf(s) {
		for y := max((d.Y-d.Radius)>>4-2, -65536); y <= min((d.Y+d.Radius)>>4+2, 65535); y++ {
			for x := max((d.X-d.Radius)>>4-2, -65536); x <= min((d.X+d.Radius)>>4+2, 65535); x++ {
				place := api.Point{X: x, Y: y}
				if c := coverage(d, x, y); c != 0 && s.Erase {
					pixels[place] = pixel.Fade(pixels[place], 255-c)
				} else if c != 0 {
					pixels[place] = pixel.Over(pixels[place], s.Colour, 0, c)
				}
			}
		}
	}
	return tiled(pixels)
}

// tiled returns the raster with these pixels, if it is not too large.
func tiled(pixels map[api.Point]api.Pixel) (api.Raster, api.Errno) {
	tiles := map[api.TilePos]*api.TileAt{}
	var r api.Raster
	for place, p := range pixels {
		pos := api.TilePos{X: place.X >> 3, Y: place.Y >> 3}
		if p.A == 0 {
			continue
		}
		if tiles[pos] == nil {
			tiles[pos] = &api.TileAt{Pos: pos}
		}
		tiles[pos].Tile[8*(place.Y&7)+place.X&7] = p
	}
	for _, t := range tiles {
		r.Tiles = append(r.Tiles, *t)
	}
	if len(r.Tiles) > 1024 {
		return api.Raster{}, api.ErrMany
	}
	slices.SortFunc(r.Tiles, inOrder)
	return r, api.OK
}

// area returns what Area returns, as P14.5 says it.
func area(s api.Stroke) api.Rect {
	r := box(greatest, greatest, least, least)
	for _, d := range dabsOf(s) {
		if d.Radius > 0 {
			r.X0, r.Y0 = min(r.X0, (d.X-d.Radius)>>4), min(r.Y0, (d.Y-d.Radius)>>4)
			r.X1, r.Y1 = max(r.X1, (d.X+d.Radius)>>4+1), max(r.Y1, (d.Y+d.Radius)>>4+1)
		}
	}
	if r.X0 > r.X1 {
		return api.Rect{}
	}
	return box(max(r.X0, -65536), max(r.Y0, -65536), min(r.X1, 65536), min(r.Y1, 65536))
}

// halves returns what Split returns, as P14.6 says it.
func halves(s api.Stroke, index int) (api.Stroke, api.Stroke, api.Errno) {
	if !isValid(s) || index < 1 || index > len(s.Points)-2 {
		return api.Stroke{}, api.Stroke{}, api.ErrArg
	}
	a, b := copyOf(s), copyOf(s)
	a.Points, b.Points = a.Points[:index+1], b.Points[index:]
	length := sum(lengths(a.Points))
	for b.Phase < length {
		b.Phase += s.Spacing
	}
	b.Phase -= length
	return a, b, api.OK
}

// bigEndian returns the low bytes of a number, the highest one first.
func bigEndian(n, size int) string {
	if size == 0 {
		return ""
	}
	return bigEndian(n>>8, size-1) + string([]byte{byte(n)})
}

// serialized returns the encoding of the fields of a stroke, be it valid or not.
func serialized(s api.Stroke) string {
	encoded := bigEndian(len(s.Points), 1)
	for _, p := range s.Points {
		encoded += bigEndian(p.X+1048576, 3) + bigEndian(p.Y+1048576, 3) + bigEndian(p.Pressure, 1)
	}
	erase := map[bool]string{false: "\x00", true: "\x01"}[s.Erase]
	return encoded + bigEndian(s.Radius, 2) + bigEndian(s.Spacing, 2) + string([]byte{s.Colour.R, s.Colour.G, s.Colour.B, s.Colour.A}) + erase + bigEndian(s.Phase, 3)
}

// expectDabs reports other dabs, and dabs that the stroke, or another call, can see.
func expectDabs(t *testing.T, s api.Stroke, want ...api.Dab) {
	t.Helper()
	before := copyOf(s)
	for range 2 {
		got := stroke.Dabs(s)
		if !slices.Equal(got, want) {
			t.Fatalf("Dabs of %v returns %v, not %v", s, got, want)
		}
		clear(got)
	}
	if !isSame(s, before) {
		t.Fatalf("Dabs changes %v", before)
	}
}

// expectPaint reports another result of Paint, and arguments that are not as they were or that share memory with the result.
func expectPaint(t *testing.T, r api.Raster, s api.Stroke, want api.Raster, wantErr api.Errno) {
	t.Helper()
	before, tiles := copyOf(s), slices.Clone(r.Tiles)
	for range 2 {
		got, err := stroke.Paint(r, s)
		if err != wantErr || !slices.Equal(got.Tiles, want.Tiles) {
			t.Fatalf("Paint of %v on %d tiles returns %d tiles and the error %d, not %d and %d, or others", s, len(r.Tiles), len(got.Tiles), err, len(want.Tiles), wantErr)
		}
		// The second call would notice if these were tiles of the argument, or were kept.
		for i := range got.Tiles[:cap(got.Tiles)] {
			got.Tiles[:cap(got.Tiles)][i] = solid(-7, -7, of(5, 5, 5, 5))
		}
	}
	if !isSame(s, before) || !slices.Equal(r.Tiles, tiles) {
		t.Fatalf("Paint of %v changes its arguments", before)
	}
}

// expectPainted reports a result of Paint other than that of the model.
func expectPainted(t *testing.T, r api.Raster, s api.Stroke) {
	t.Helper()
	want, err := painted(r, s)
	expectPaint(t, r, s, want, err)
}

// expectSplit reports another result of Split, and a stroke that is not as it was or that shares memory with the result.
func expectSplit(t *testing.T, s api.Stroke, index int, wantA, wantB api.Stroke, wantErr api.Errno) {
	t.Helper()
	before := copyOf(s)
	for range 2 {
		a, b, err := stroke.Split(s, index)
		if err != wantErr || !isSame(a, wantA) || !isSame(b, wantB) {
			t.Fatalf("Split of %v at %d returns %v, %v and the error %d, not %v, %v and %d", s, index, a, b, err, wantA, wantB, wantErr)
		}
		overwrite(a.Points)
		if !isSame(b, wantB) {
			t.Fatalf("the halves of %v at %d share memory", s, index)
		}
		overwrite(b.Points)
	}
	if !isSame(s, before) {
		t.Fatalf("Split changes %v, or shares memory with it", before)
	}
}

// overwrite replaces all points that a slice has, or has capacity for.
func overwrite(points []api.StrokePoint) {
	for i := range points[:cap(points)] {
		points[:cap(points)][i] = at(3, 1, 4)
	}
}

// expectBytes reports another encoding of a valid stroke, or one that is not read as this stroke.
func expectBytes(t *testing.T, s api.Stroke, want string) {
	t.Helper()
	before := copyOf(s)
	if got := stroke.Bytes(s); got != want {
		t.Fatalf("Bytes of %v returns %x, not %x", s, got, want)
	}
	if !isSame(s, before) {
		t.Fatalf("Bytes changes %v", before)
	}
	for range 2 {
		got, err := stroke.Read(want)
		if err != api.OK || !isSame(got, s) {
			t.Fatalf("Read of %x returns %v and the error %d, not %v", want, got, err, s)
		}
		overwrite(got.Points)
	}
}

// expectUnreadable reports a string that is read with another error, or as a stroke.
func expectUnreadable(t *testing.T, encoded string, want api.Errno) {
	t.Helper()
	if got, err := stroke.Read(encoded); err != want || !isSame(got, api.Stroke{}) {
		t.Fatalf("Read of %x returns %v and the error %d, not %d", encoded, got, err, want)
	}
}

// expectInvalid reports a stroke that is accepted by any call, or rejected in another way.
func expectInvalid(t *testing.T, s api.Stroke) {
	t.Helper()
	before := copyOf(s)
	if stroke.Valid(s) {
		t.Fatalf("%v is valid", s)
	}
	expectDabs(t, s)
	if got := stroke.Area(s); got != (api.Rect{}) {
		t.Fatalf("Area of %v returns %v", s, got)
	}
	expectPaint(t, rows(2), s, api.Raster{}, api.ErrArg)
	for _, index := range []int{0, 1, 2, len(s.Points) - 2} {
		expectSplit(t, s, index, api.Stroke{}, api.Stroke{}, api.ErrArg)
	}
	if got := stroke.Bytes(s); got != "" {
		t.Fatalf("Bytes of %v returns %x", s, got)
	}
	if !isSame(s, before) {
		t.Fatalf("a call changes %v", before)
	}
}

// expectValid reports a stroke that is not accepted by any of the calls that ask for a valid one.
func expectValid(t *testing.T, s api.Stroke) {
	t.Helper()
	if !stroke.Valid(s) {
		t.Fatalf("%v is not valid", s)
	}
	expectDabs(t, s, dabsOf(s)...)
	if got := stroke.Area(s); got != area(s) {
		t.Fatalf("Area of %v returns %v, not %v", s, got, area(s))
	}
	for index := -1; index <= len(s.Points); index++ {
		a, b, err := halves(s, index)
		expectSplit(t, s, index, a, b, err)
	}
	expectBytes(t, s, serialized(s))
}
