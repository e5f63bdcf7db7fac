package codec_test

import (
	"encoding/binary"
	"hash/crc32"
	"math"
	"slices"
	"strings"
	"testing"

	"gouache/api"
	"gouache/codec"
	"gouache/coder"
	"gouache/predict"
	"gouache/raster"
)

const (
	least    = math.MinInt
	greatest = math.MaxInt
)

// part is a tile of a packed raster, with what the index says of it, right or wrong.
type part struct {
	x, y    int
	preview api.Pixel
	length  int
	sum     uint32
	blob    string
}

// leb returns the LEB128 encoding of an integer.
func leb(n int) string {
	return string(binary.AppendUvarint(nil, uint64(n)))
}

// big returns the last size bytes of an integer.
func big(n, size int) string {
	return string(binary.BigEndian.AppendUint64(nil, uint64(n))[8-size:])
}

// crc returns the checksum of a string.
func crc(s string) uint32 {
	return crc32.ChecksumIEEE([]byte(s))
}

// channels returns the four bytes of a pixel.
func channels(p api.Pixel) string {
	return string([]byte{p.R, p.G, p.B, p.A})
}

// bytesOf returns the bytes of a tile.
func bytesOf(t api.Tile) string {
	var s string
	for _, p := range t {
		s += channels(p)
	}
	return s
}

// tileOf returns the tile with these 256 bytes.
func tileOf(s string) api.Tile {
	var t api.Tile
	for i := range t {
		t[i] = of(s[4*i], s[4*i+1], s[4*i+2], s[4*i+3])
	}
	return t
}

// rounded returns n / d, rounded to the nearest integer, halves upwards.
func rounded(n, d int) uint8 {
	q := n / d
	if 2*(n%d) >= d {
		q++
	}
	return uint8(q)
}

// meanOf returns the mean of the pixels of a tile: the colours count as much as they are opaque.
func meanOf(t api.Tile) api.Pixel {
	var r, g, b, a int
	for _, p := range t {
		alpha := int(p.A)
		r, g, b, a = r+alpha*int(p.R), g+alpha*int(p.G), b+alpha*int(p.B), a+alpha
	}
	if rounded(a, 64) == 0 {
		return api.Pixel{}
	}
	return of(rounded(r, a), rounded(g, a), rounded(b, a), rounded(a, 64))
}

// codedBlob returns the blob of a tile with a predictor.
func codedBlob(t api.Tile, predictor int) string {
	residuals, _ := predict.Forward(t, predictor)
	return "\x02" + string([]byte{byte(predictor)}) + coder.Encode(residuals)
}

// blobOf returns the blob of a tile, as P12.1 says it.
func blobOf(t api.Tile) string {
	if t == filled(t[0]) {
		return "\x00" + channels(t[0])
	}
	if coded := codedBlob(t, predict.Best(t)); len(coded) < 257 {
		return coded
	}
	return "\x01" + bytesOf(t)
}

// partWith returns a part of which only the blob and the preview pixel may be wrong.
func partWith(x, y int, preview api.Pixel, blob string) part {
	return part{x, y, preview, len(blob), crc(blob), blob}
}

// partOf returns the part of a tile.
func partOf(x, y int, t api.Tile) part {
	return partWith(x, y, meanOf(t), blobOf(t))
}

// bytes returns what the index says of the part.
func (p part) bytes() string {
	return big(p.x+8192, 2) + big(p.y+8192, 2) + channels(p.preview) + leb(p.length) + big(int(p.sum), 4)
}

// indexOf returns an index that has these parts, and says that there are count of them.
func indexOf(count int, parts ...part) string {
	s := leb(count)
	for _, p := range parts {
		s += p.bytes()
	}
	return s
}

// blobsOf returns the blobs of parts.
func blobsOf(parts ...part) string {
	var s strings.Builder
	for _, p := range parts {
		s.WriteString(p.blob)
	}
	return s.String()
}

// sealed returns an index with its checksum, and what follows.
func sealed(index, blobs string) string {
	return "\x47\x01" + leb(len(index)) + index + big(int(crc(index)), 4) + blobs
}

// joined returns the packed raster with these parts.
func joined(parts ...part) string {
	return sealed(indexOf(len(parts), parts...), blobsOf(parts...))
}

// partsOf returns the parts of a raster.
func partsOf(r api.Raster) []part {
	var parts []part
	for _, at := range r.Tiles {
		parts = append(parts, partOf(at.Pos.X, at.Pos.Y, at.Tile))
	}
	return parts
}

// listed returns the parts in an index, and whether it is one: it is if the parts that are found in it have this index.
func listed(index string) ([]part, bool) {
	rest := []byte(index)
	number := func() (int, bool) {
		n, used := binary.Uvarint(rest)
		rest = rest[max(used, 0):]
		return int(n), used > 0
	}
	count, complete := number()
	if !complete || count < 0 || count > 1024 {
		return nil, false
	}
	var parts []part
	for range count {
		if len(rest) < 8 {
			return nil, false
		}
		x, y, preview := int(binary.BigEndian.Uint16(rest))-8192, int(binary.BigEndian.Uint16(rest[2:]))-8192, of(rest[4], rest[5], rest[6], rest[7])
		rest = rest[8:]
		length, complete := number()
		if !complete || len(rest) < 4 || length < 1 || length > 257 || x > 8191 || y > 8191 {
			return nil, false
		}
		parts = append(parts, part{x: x, y: y, preview: preview, length: length, sum: binary.BigEndian.Uint32(rest)})
		rest = rest[4:]
	}
	place := func(p part) int { return 65536*p.y + p.x }
	for i := 1; i < len(parts); i++ {
		if place(parts[i-1]) >= place(parts[i]) {
			return nil, false
		}
	}
	return parts, indexOf(count, parts...) == index
}

// opened returns the parts of a packed raster, or the error of Open, as P12.2 says it.
func opened(s string) ([]part, api.Errno) {
	rest, found := strings.CutPrefix(s, "G\x01")
	if !found {
		return nil, api.ErrForm
	}
	size, used := binary.Uvarint([]byte(rest))
	if used <= 0 || leb(int(size)) != rest[:used] || size > uint64(len(rest)-used) || len(rest)-used-int(size) < 4 {
		return nil, api.ErrShort
	}
	index, rest := rest[used:used+int(size)], rest[used+int(size):]
	if binary.BigEndian.Uint32([]byte(rest)) != crc(index) {
		return nil, api.ErrSum
	}
	parts, formed := listed(index)
	if !formed {
		return nil, api.ErrForm
	}
	blobs := rest[4:]
	for i := range parts {
		if len(blobs) < parts[i].length {
			return nil, api.ErrShort
		}
		parts[i].blob, blobs = blobs[:parts[i].length], blobs[parts[i].length:]
	}
	if blobs != "" {
		return nil, api.ErrForm
	}
	return parts, api.OK
}

// formed returns the tile that a blob has in one of the three forms.
func formed(blob string) (api.Tile, bool) {
	switch {
	case blob[0] == 0 && len(blob) == 5:
		return filled(of(blob[1], blob[2], blob[3], blob[4])), true
	case blob[0] == 1 && len(blob) == 257:
		return tileOf(blob[1:]), true
	case blob[0] == 2 && len(blob) > 1 && blob[1] < 6:
		residuals, err := coder.Decode(blob[2:], 256)
		if err != api.OK {
			return api.Tile{}, false
		}
		t, err := predict.Inverse(residuals, int(blob[1]))
		return t, err == api.OK
	}
	return api.Tile{}, false
}

// decode returns the tile of a part, as P12.4 says it.
func (p part) decode() (api.Tile, api.Errno) {
	if crc(p.blob) != p.sum {
		return api.Tile{}, api.ErrSum
	}
	t, ok := formed(p.blob)
	opaque := 0
	for _, p := range t {
		if p.A == 0 && p != (api.Pixel{}) {
			ok = false
		}
		opaque += int(p.A)
	}
	if !ok || opaque == 0 {
		return api.Tile{}, api.ErrForm
	}
	return t, api.OK
}

// checked returns the error of Check, as P12.5 says it.
func checked(s string) api.Errno {
	parts, err := opened(s)
	if err != api.OK {
		return err
	}
	for _, p := range parts {
		t, err := p.decode()
		if err == api.OK && p.preview != meanOf(t) {
			err = api.ErrForm
		}
		if err != api.OK {
			return err
		}
	}
	return api.OK
}

// model is what the chapter says of a file.
type model struct {
	parts   []part
	decoded int
}

// pos returns the position of a part.
func (p part) pos() api.TilePos {
	return api.TilePos{X: p.x, Y: p.y}
}

// box returns the rectangle of a part.
func (p part) box() api.Rect {
	return box(8*p.x, 8*p.y, 8*p.x+8, 8*p.y+8)
}

// bounds returns the smallest rectangle that contains all tiles.
func (m *model) bounds() api.Rect {
	if len(m.parts) == 0 {
		return api.Rect{}
	}
	b := m.parts[0].box()
	for _, p := range m.parts {
		c := p.box()
		b = box(min(b.X0, c.X0), min(b.Y0, c.Y0), max(b.X1, c.X1), max(b.Y1, c.Y1))
	}
	return b
}

// preview returns the preview at a position; the products and sums wrap around.
func (m *model) preview(pos api.TilePos) api.Tile {
	var t api.Tile
	for i := range t {
		for _, p := range m.parts {
			if p.x == 8*pos.X+i%8 && p.y == 8*pos.Y+i/8 && p.preview.A > 0 {
				t[i] = p.preview
			}
		}
	}
	return t
}

// tile returns the tile at a position.
func (m *model) tile(pos api.TilePos) (api.Tile, api.Errno) {
	for _, p := range m.parts {
		if p.x == pos.X && p.y == pos.Y {
			m.decoded++
			return p.decode()
		}
	}
	return api.Tile{}, api.OK
}

// read returns the raster in a rectangle, pixel by pixel.
func (m *model) read(r api.Rect) (api.Raster, api.Errno) {
	var read api.Raster
	for _, p := range m.parts {
		kept, touches := api.TileAt{Pos: p.pos()}, false
		var inside [64]bool
		for i := range inside {
			x, y := 8*p.x+i%8, 8*p.y+i/8
			inside[i] = r.X0 <= x && x < r.X1 && r.Y0 <= y && y < r.Y1
			touches = touches || inside[i]
		}
		if !touches {
			continue
		}
		m.decoded++
		t, err := p.decode()
		if err != api.OK {
			return api.Raster{}, err
		}
		for i := range inside {
			if inside[i] {
				kept.Tile[i] = t[i]
			}
		}
		if kept.Tile != (api.Tile{}) {
			read.Tiles = append(read.Tiles, kept)
		}
	}
	return read, api.OK
}

// file opens a packed raster, which must succeed.
func file(t *testing.T, s string) *codec.File {
	t.Helper()
	f, err := codec.Open(s)
	if f == nil || err != api.OK {
		t.Fatalf("Open of %.80x (%d bytes) returns %v and %d", s, len(s), f, err)
	}
	return f
}

// expectOpen reports a call of Open that returns another error, or a file with an error, or none without.
func expectOpen(t *testing.T, s string, want api.Errno) {
	t.Helper()
	if f, err := codec.Open(s); err != want || (f == nil) != (want != api.OK) {
		t.Errorf("Open of %.80x (%d bytes) returns %v and %d, not %d", s, len(s), f != nil, err, want)
	}
}

// expectCheck reports a call of Check that returns another error.
func expectCheck(t *testing.T, s string, want api.Errno) {
	t.Helper()
	if err := codec.Check(s); err != want {
		t.Errorf("Check of %.80x (%d bytes) returns %d, not %d", s, len(s), err, want)
	}
}

// expectTile reports a call of Tile that returns another tile or error.
func expectTile(t *testing.T, f *codec.File, x, y int, want api.Tile, wantErr api.Errno) {
	t.Helper()
	if got, err := f.Tile(api.TilePos{X: x, Y: y}); got != want || err != wantErr {
		t.Errorf("the tile at (%d, %d) is %v with error %d, not %v with error %d", x, y, got, err, want, wantErr)
	}
}

// expectRead reports a call of Read that returns another raster or error.
func expectRead(t *testing.T, f *codec.File, r api.Rect, want api.Raster, wantErr api.Errno) {
	t.Helper()
	got, err := f.Read(r)
	if !slices.Equal(got.Tiles, want.Tiles) || err != wantErr || !raster.Valid(got) {
		t.Errorf("Read of %v returns %d tiles with error %d, not %d with error %d", r, len(got.Tiles), err, len(want.Tiles), wantErr)
	}
}

// expectAll reports a call of All that returns another raster or error.
func expectAll(t *testing.T, f *codec.File, want api.Raster, wantErr api.Errno) {
	t.Helper()
	got, err := f.All()
	if !slices.Equal(got.Tiles, want.Tiles) || err != wantErr || !raster.Valid(got) {
		t.Errorf("All returns %d tiles with error %d, not %d with error %d", len(got.Tiles), err, len(want.Tiles), wantErr)
	}
}

// expectDecoded reports another number of attempts.
func expectDecoded(t *testing.T, f *codec.File, want int) {
	t.Helper()
	if got := f.Decoded(); got != want {
		t.Errorf("%d tiles have been decoded, not %d", got, want)
	}
}

// someRects returns rectangles that touch all, some or none of the tiles of a model.
func (m *model) someRects() []api.Rect {
	b := m.bounds()
	rects := []api.Rect{
		{}, b, box(b.X0+1, b.Y0+1, b.X1-1, b.Y1-1), box(b.X0-1, b.Y0-1, b.X0+1, b.Y0+1), box(b.X1, b.Y0, b.X1+1, b.Y1), box(b.X1-1, b.Y1-1, greatest, greatest),
		box(least, least, greatest, greatest), box(greatest, greatest, least, least), box(-65536, -65536, 65536, 65536), box(-4, -4, 4, 4), box(b.X0, b.Y0, b.X0, b.Y1),
	}
	for i, p := range m.parts {
		if c := p.box(); i < 5 || i > len(m.parts)-3 {
			rects = append(rects, c, box(c.X0-1, c.Y0+3, c.X0+1, c.Y0+4), box(c.X0+7, c.Y0-9, c.X1+9, c.Y0+1), box(c.X0, c.Y1, c.X1, c.Y1+1), box(c.X0-1, c.Y0, c.X0, c.Y1))
		}
	}
	return rects
}

// somePositions returns the positions of some tiles of a model and positions beside them, near the origin, at the limits and beyond.
func (m *model) somePositions() []api.TilePos {
	positions := []api.TilePos{{}, {X: -1}, {Y: -1}, {X: 8191, Y: 8191}, {X: -8192, Y: -8192}, {X: 8192}, {Y: -8193}, {X: 57343}, {X: least, Y: greatest}, {X: 1 << 61, Y: -1 << 62}}
	for i, p := range m.parts {
		if i < 5 || i > len(m.parts)-3 {
			positions = append(positions, p.pos(), api.TilePos{X: p.x + 1, Y: p.y}, api.TilePos{X: p.x, Y: p.y - 1}, api.TilePos{X: p.x >> 3, Y: p.y >> 3}, api.TilePos{X: p.x>>3 + 1, Y: p.y >> 3}, api.TilePos{X: p.x + 65536, Y: p.y})
		}
	}
	return positions
}

// expectRules reports calls with any string that return anything else than the chapter says.
func expectRules(t *testing.T, s string) {
	t.Helper()
	parts, want := opened(s)
	expectOpen(t, s, want)
	expectCheck(t, s, checked(s))
	f, err := codec.Open(s)
	if err != api.OK || want != api.OK {
		return
	}
	m := &model{parts: parts}
	if f.Count() != len(parts) || f.Bounds() != m.bounds() {
		t.Errorf("a file has %d tiles in %v, not %d in %v", f.Count(), f.Bounds(), len(parts), m.bounds())
	}
	for _, pos := range m.somePositions() {
		if got, err := f.Preview(pos); got != m.preview(pos) || err != api.OK {
			t.Errorf("the preview at %v is %v with error %d, not %v", pos, got, err, m.preview(pos))
		}
		expectDecoded(t, f, m.decoded)
		want, wantErr := m.tile(pos)
		expectTile(t, f, pos.X, pos.Y, want, wantErr)
		expectDecoded(t, f, m.decoded)
	}
	for _, r := range m.someRects() {
		want, wantErr := m.read(r)
		expectRead(t, f, r, want, wantErr)
		expectDecoded(t, f, m.decoded)
	}
	all, wantErr := m.read(box(least, least, greatest, greatest))
	expectAll(t, f, all, wantErr)
	expectDecoded(t, f, m.decoded)
}
