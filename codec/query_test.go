package codec_test

import (
	"testing"

	"gouache/api"
	"gouache/codec"
)

// expectPreview reports a call of Preview that returns another tile, or an error.
func expectPreview(t *testing.T, f *codec.File, x, y int, want api.Tile) {
	t.Helper()
	if got, err := f.Preview(api.TilePos{X: x, Y: y}); got != want || err != api.OK {
		t.Errorf("the preview at (%d, %d) is %v with error %d, not %v", x, y, got, err, want)
	}
}

// P12.3: no tile, one and several; the bounds are those of whole tiles, be they ever so empty.
func TestCountAndBounds(t *testing.T) {
	dot := lit(0, of(1, 2, 3, 4))
	for _, x := range []struct {
		r    api.Raster
		want api.Rect
	}{
		{api.Raster{}, api.Rect{}},
		{rasterOf(at(0, 0, dot)), box(0, 0, 8, 8)},
		{rasterOf(at(-1, 5, dot)), box(-8, 40, 0, 48)},
		{rasterOf(at(-8192, -8192, dot)), box(-65536, -65536, -65528, -65528)},
		{rasterOf(at(8191, 8191, dot)), box(65528, 65528, 65536, 65536)},
		{rasterOf(at(-8192, -8192, dot), at(8191, 8191, dot)), box(-65536, -65536, 65536, 65536)},
		{rasterOf(at(8191, -8192, dot), at(-8192, 8191, dot)), box(-65536, -65536, 65536, 65536)},
		{rasterOf(at(5, -1, dot), at(-3, 0, dot), at(4, 2, dot)), box(-24, -8, 48, 24)},
		{rasterOf(at(3, 7, dot), at(1, 8, dot), at(2, 9, dot)), box(8, 56, 32, 80)},
		{rasterOf(at(3, -9, dot), at(4, -9, dot)), box(24, -72, 40, -64)},
		{many(1024), box(-160, -104, 160, 104)},
	} {
		f := file(t, packedRaster(t, x.r))
		for range 2 {
			if f.Count() != len(x.r.Tiles) || f.Bounds() != x.want {
				t.Errorf("%d tiles are %d tiles in %v, not in %v", len(x.r.Tiles), f.Count(), f.Bounds(), x.want)
			}
		}
		expectDecoded(t, f, 0)
	}
}

// P12.3: previews of which all 64 tiles are in the file, some, or none.
func TestPreview(t *testing.T) {
	var parts []part
	var whole api.Tile
	for i := range 64 {
		whole[i] = of(uint8(i), uint8(2*i), uint8(3*i), uint8(255-i))
		parts = append(parts, partWith(8+i%8, -16+i/8, whole[i], "\x00"+channels(whole[i])))
	}
	f := file(t, joined(parts...))
	expectPreview(t, f, 1, -2, whole)
	for _, pos := range []api.TilePos{{X: 0, Y: -2}, {X: 2, Y: -2}, {X: 1, Y: -1}, {X: 1, Y: -3}, {}, {X: 8, Y: -16}} {
		expectPreview(t, f, pos.X, pos.Y, api.Tile{})
	}

	red, blue := of(255, 0, 0, 255), of(0, 0, 255, 7)
	f = file(t, packedRaster(t, rasterOf(at(-1, -1, filled(blue)), at(0, -1, filled(red)), at(-8, 0, filled(red)), at(7, 0, filled(blue)), at(8, 0, filled(red)), at(0, 7, filled(red)))))
	expectPreview(t, f, -1, -1, lit(63, blue))
	expectPreview(t, f, 0, -1, lit(56, red))
	expectPreview(t, f, -1, 0, lit(0, red))
	both := lit(7, blue)
	both[56] = red
	expectPreview(t, f, 0, 0, both)
	expectPreview(t, f, 1, 0, lit(0, red))
	expectPreview(t, f, 0, 1, api.Tile{})
	expectDecoded(t, f, 0)

	expectPreview(t, file(t, packedEmpty), 0, 0, api.Tile{})
	expectPreview(t, file(t, packedRaster(t, rasterOf(at(3, 2, halves())))), 0, 0, lit(19, of(213, 0, 43, 153)))
	expectPreview(t, file(t, packedRaster(t, rasterOf(at(3, 2, lit(5, of(1, 2, 3, 4)))))), 0, 0, api.Tile{})
}

// P12.3: the limits of positions, and positions beyond them. Sums and products wrap around (R5), so that 8 times 2^61 is 0, and 8 times the greatest integer -8.
func TestPreviewAtTheLimits(t *testing.T) {
	p := of(1, 2, 3, 4)
	f := file(t, packedRaster(t, rasterOf(at(-8192, -8192, filled(p)), at(8191, -8192, filled(p)), at(-8, 0, filled(p)), at(0, 0, filled(p)), at(-8192, 8191, filled(p)), at(8191, 8191, filled(p)))))
	for _, x := range []struct{ x, y, i int }{
		{-1024, -1024, 0}, {1023, -1024, 7}, {-1024, 1023, 56}, {1023, 1023, 63}, {0, 0, 0}, {-1, 0, 0},
		{1 << 61, 0, 0}, {1 << 61, 1 << 62, 0}, {least, least, 0}, {greatest, 0, 0}, {greatest, least, 0}, {-1<<61 - 1, 1 << 61, 0}, {1023 + 1<<61, 1023 - 1<<61, 63},
	} {
		expectPreview(t, f, x.x, x.y, lit(x.i, p))
	}
	for _, pos := range []api.TilePos{{X: 1024}, {X: -1025}, {Y: 1024}, {Y: -1025}, {X: 1024, Y: 1023}, {X: -1025, Y: -1024}, {X: 8191, Y: 8191}, {X: -8192, Y: -8192}, {X: 65536}, {X: 1 << 32}, {X: 8192, Y: 8192}, {X: 1 << 60}, {Y: 1 << 60}, {X: greatest, Y: greatest}, {X: least, Y: greatest}} {
		expectPreview(t, f, pos.X, pos.Y, api.Tile{})
	}
	expectDecoded(t, f, 0)
}

// P12.3: preview pixels are cleaned, and are those in the index even if the tiles have other means, or cannot be decoded.
func TestPreviewOfOtherPixels(t *testing.T) {
	f := file(t, joined(partWith(0, 0, of(1, 2, 3, 0), dotBlob), partWith(1, 0, of(255, 255, 255, 0), "\x09"), partWith(2, 0, of(9, 8, 7, 1), dotBlob), part{3, 0, of(0, 0, 0, 255), 5, 0, dotBlob}, partWith(4, 0, api.Pixel{}, dotBlob)))
	want := lit(2, of(9, 8, 7, 1))
	want[3] = of(0, 0, 0, 255)
	for range 3 {
		expectPreview(t, f, 0, 0, want)
	}
	expectDecoded(t, f, 0)
}

// P12.3: attempts are counted, those of tiles that have been decoded before, and those that fail; looking for a tile that is not there is none.
func TestDecoded(t *testing.T) {
	bad := dotPart(2, 0)
	bad.sum ^= 1
	f := file(t, joined(dotPart(0, 0), dotPart(1, 0), bad, dotPart(3, 0)))
	expectDecoded(t, f, 0)
	for i, pos := range []int{0, 0, 1, 2, 2, 3, 2} {
		f.Tile(api.TilePos{X: pos})
		expectDecoded(t, f, i+1)
	}
	for _, pos := range []api.TilePos{{X: 4}, {X: -1}, {Y: 1}, {X: 8192}, {X: least, Y: greatest}, {X: 65536}} {
		f.Tile(pos)
		f.Preview(pos)
		expectDecoded(t, f, 7)
	}
	for _, x := range []struct {
		r    api.Rect
		more int
	}{{box(0, 0, 16, 8), 2}, {box(7, 7, 9, 8), 2}, {box(0, 8, 99, 99), 0}, {api.Rect{}, 0}, {box(0, 0, 99, 99), 3}, {box(16, 0, 32, 8), 1}, {box(24, 0, 32, 8), 1}, {box(20, 0, 20, 8), 0}} {
		before := f.Decoded()
		f.Read(x.r)
		expectDecoded(t, f, before+x.more)
	}
	before := f.Decoded()
	f.All()
	expectDecoded(t, f, before+3)
	f.All()
	f.Count()
	f.Bounds()
	expectDecoded(t, f, before+6)
	g := file(t, packedRaster(t, many(1024)))
	g.All()
	expectDecoded(t, g, 1024)
	g.All()
	g.Read(box(-160, -104, 160, 104))
	expectDecoded(t, g, 3072)
}

// The end of the contract: a nil file.
func TestNilFile(t *testing.T) {
	var f *codec.File
	for _, pos := range []api.TilePos{{}, {X: 1, Y: 2}, {X: 8192}, {X: least, Y: greatest}} {
		expectTile(t, f, pos.X, pos.Y, api.Tile{}, api.ErrArg)
		if got, err := f.Preview(pos); got != (api.Tile{}) || err != api.ErrArg {
			t.Errorf("the preview of a nil file is %v with error %d", got, err)
		}
	}
	for _, r := range []api.Rect{{}, box(0, 0, 8, 8), box(least, least, greatest, greatest), box(5, 5, 0, 0)} {
		expectRead(t, f, r, api.Raster{}, api.ErrArg)
	}
	expectAll(t, f, api.Raster{}, api.ErrArg)
	if f.Count() != 0 || f.Bounds() != (api.Rect{}) || f.Decoded() != 0 {
		t.Errorf("a nil file has %d tiles in %v, and %d have been decoded", f.Count(), f.Bounds(), f.Decoded())
	}
}

// P1: a file that Open has not made is one without tiles.
func TestZeroFile(t *testing.T) {
	var f codec.File
	expectTile(t, &f, 0, 0, api.Tile{}, api.OK)
	expectPreview(t, &f, 0, 0, api.Tile{})
	expectRead(t, &f, box(0, 0, 8, 8), api.Raster{}, api.OK)
	expectAll(t, &f, api.Raster{}, api.OK)
	if f.Count() != 0 || f.Bounds() != (api.Rect{}) || f.Decoded() != 0 {
		t.Errorf("a zero file has %d tiles in %v, and %d have been decoded", f.Count(), f.Bounds(), f.Decoded())
	}
}
