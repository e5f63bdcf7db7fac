package codec_test

import (
	"slices"
	"strings"
	"testing"

	"gouache/api"
	"gouache/coder"
	"gouache/predict"
	"gouache/raster"
)

// expectBlob reports a blob under its right checksum that is not decoded to a tile, or with an error.
func expectBlob(t *testing.T, blob string, want api.Tile, wantErr api.Errno) {
	t.Helper()
	s := joined(dotPart(-1, 0), partWith(0, 0, meanOf(want), blob), dotPart(1, 0))
	f := file(t, s)
	expectTile(t, f, 0, 0, want, wantErr)
	expectTile(t, f, 1, 0, filled(of(1, 2, 3, 4)), api.OK)
	expectTile(t, f, -1, 0, filled(of(1, 2, 3, 4)), api.OK)
	expectDecoded(t, f, 3)
	if wantErr == api.OK {
		expectRead(t, f, box(0, 0, 8, 8), rasterOf(at(0, 0, want)), api.OK)
		expectAll(t, f, rasterOf(at(-1, 0, filled(of(1, 2, 3, 4))), at(0, 0, want), at(1, 0, filled(of(1, 2, 3, 4)))), api.OK)
	} else {
		expectRead(t, f, box(0, 0, 8, 8), api.Raster{}, wantErr)
		expectAll(t, f, api.Raster{}, wantErr)
	}
	expectCheck(t, s, wantErr)
}

// coded returns the blob of a tile with a predictor, whatever its length.
func coded(t *testing.T, tile api.Tile, predictor int) string {
	t.Helper()
	blob := codedBlob(tile, predictor)
	if len(blob) > 257 {
		t.Fatalf("a blob has %d bytes, and so none that a file may have", len(blob))
	}
	return blob
}

// P12.4: tiles that are in the index, of all forms.
func TestTile(t *testing.T) {
	f := file(t, packedTwo)
	expectTile(t, f, 8191, -8192, filled(of(9, 0, 0, 128)), api.OK)
	expectTile(t, f, -8192, 8191, ramp(), api.OK)
	for _, r := range someRasters() {
		f := file(t, packedRaster(t, r))
		for _, a := range r.Tiles {
			expectTile(t, f, a.Pos.X, a.Pos.Y, a.Tile, api.OK)
		}
		expectDecoded(t, f, len(r.Tiles))
	}
}

// P12.4: positions that are not in the index, beside those that are, and out of range, also where the bytes of the position would be the same.
func TestTileElsewhere(t *testing.T) {
	f := file(t, joined(dotPart(0, 0), dotPart(2, 0), dotPart(0, 2), dotPart(8191, 8191)))
	for _, pos := range []api.TilePos{
		{X: 1}, {Y: 1}, {X: -1}, {Y: -1}, {X: 2, Y: 2}, {X: 3}, {Y: 3}, {X: 8191}, {Y: 8191}, {X: 8190, Y: 8191}, {X: -8192, Y: -8192},
		{X: 8192}, {X: -8193}, {Y: 8192}, {Y: -8193}, {X: 8191, Y: 8192}, {X: 65536}, {X: -65536}, {Y: 65536}, {X: 65538}, {X: 1 << 32}, {X: 1 << 61}, {X: least}, {Y: least}, {X: greatest, Y: greatest}, {X: least, Y: greatest},
	} {
		expectTile(t, f, pos.X, pos.Y, api.Tile{}, api.OK)
	}
	expectDecoded(t, f, 0)
	expectTile(t, file(t, packedEmpty), 0, 0, api.Tile{}, api.OK)
}

// P12.4: solid blobs: five bytes, of which the pixel is not transparent.
func TestSolidBlobs(t *testing.T) {
	for _, p := range []api.Pixel{of(1, 2, 3, 4), of(0, 0, 0, 1), of(255, 255, 255, 255), of(0, 255, 0, 128)} {
		expectBlob(t, "\x00"+channels(p), filled(p), api.OK)
		expectBlob(t, "\x00"+channels(p)+"\x00", api.Tile{}, api.ErrForm)
		expectBlob(t, "\x00"+channels(p)+channels(p), api.Tile{}, api.ErrForm)
		expectBlob(t, "\x00"+bytesOf(filled(p)), api.Tile{}, api.ErrForm)
		for n := range 4 {
			expectBlob(t, "\x00"+channels(p)[:n], api.Tile{}, api.ErrForm)
		}
	}
	for _, p := range []api.Pixel{{}, of(1, 0, 0, 0), of(0, 1, 0, 0), of(0, 0, 1, 0), of(255, 255, 255, 0)} {
		expectBlob(t, "\x00"+channels(p), api.Tile{}, api.ErrForm)
	}
}

// P12.4: plain blobs: 257 bytes, also of tiles that Pack would store in other forms.
func TestPlainBlobs(t *testing.T) {
	for _, tile := range someTiles() {
		s := bytesOf(tile)
		expectBlob(t, "\x01"+s, tile, api.OK)
		for _, n := range []int{0, 1, 4, 100, 252, 255} {
			expectBlob(t, "\x01"+s[:n], api.Tile{}, api.ErrForm)
		}
	}
	expectBlob(t, "\x01"+bytesOf(api.Tile{}), api.Tile{}, api.ErrForm)
	expectBlob(t, "\x01"+bytesOf(filled(of(1, 2, 3, 0))), api.Tile{}, api.ErrForm)
	for _, i := range []int{0, 1, 30, 63} {
		for _, unclean := range []api.Pixel{of(1, 0, 0, 0), of(0, 1, 0, 0), of(0, 0, 1, 0), of(255, 255, 255, 0)} {
			tile := ramp()
			tile[i] = unclean
			expectBlob(t, "\x01"+bytesOf(tile), api.Tile{}, api.ErrForm)
			expectBlob(t, "\x01"+bytesOf(lit(i, unclean)), api.Tile{}, api.ErrForm)
		}
		expectBlob(t, "\x01"+bytesOf(lit(i, of(0, 0, 0, 1))), lit(i, of(0, 0, 0, 1)), api.OK)
	}
}

// P12.4: blobs with each predictor, not only with the best one, also of solid tiles.
func TestCodedBlobs(t *testing.T) {
	for _, tile := range []api.Tile{ramp(), halves(), filled(of(1, 2, 3, 4)), filled(of(255, 255, 255, 255)), lit(0, of(1, 2, 3, 255)), lit(63, of(0, 0, 0, 1)), noise(1, 4), slope(1)} {
		for predictor := range 6 {
			blob := coded(t, tile, predictor)
			expectBlob(t, blob, tile, api.OK)
			expectBlob(t, blob+"\x00", api.Tile{}, api.ErrForm)
			expectBlob(t, blob+"\xff", api.Tile{}, api.ErrForm)
			expectBlob(t, "\x02"+blob, api.Tile{}, api.ErrForm)
			for _, n := range []int{1, 2, 3, 5, 6, 20, len(blob) - 4, len(blob) - 1} {
				expectBlob(t, blob[:n], api.Tile{}, api.ErrForm)
			}
		}
		blob := coded(t, tile, 0)
		for _, predictor := range []byte{6, 7, 8, 127, 128, 254, 255} {
			expectBlob(t, "\x02"+string([]byte{predictor})+blob[2:], api.Tile{}, api.ErrForm)
		}
	}
	expectBlob(t, "\x02", api.Tile{}, api.ErrForm)
	expectBlob(t, "\x02\x00", api.Tile{}, api.ErrForm)
	expectBlob(t, "\x02\x00\x00\x00\x00\x00", api.Tile{}, api.ErrForm)
}

// P12.4: a blob with a predictor of 257 bytes is decoded, although Pack does not return it.
func TestLongCodedBlobs(t *testing.T) {
	for _, size := range []int{256, 257} {
		tile := tileWithCode(t, size)
		expectBlob(t, coded(t, tile, predict.Best(tile)), tile, api.OK)
		expectBlob(t, "\x01"+bytesOf(tile), tile, api.OK)
	}
}

// P12.4: blobs with a predictor of tiles that are entirely transparent, or not clean.
func TestCodedBlobsOfOtherTiles(t *testing.T) {
	for predictor := range 6 {
		expectBlob(t, coded(t, api.Tile{}, predictor), api.Tile{}, api.ErrForm)
		expectBlob(t, coded(t, filled(of(1, 2, 3, 0)), predictor), api.Tile{}, api.ErrForm)
		for _, i := range []int{0, 30, 63} {
			tile := filled(of(1, 2, 3, 4))
			tile[i] = of(0, 0, 1, 0)
			expectBlob(t, coded(t, tile, predictor), api.Tile{}, api.ErrForm)
			tile[i] = api.Pixel{}
			expectBlob(t, coded(t, tile, predictor), tile, api.OK)
		}
	}
}

// P12.4: the encoding of another number of residuals than 256.
func TestCodedBlobsOfOtherLengths(t *testing.T) {
	tile := ramp()
	residuals, _ := predict.Forward(tile, 1)
	for _, s := range []string{"", residuals[:1], residuals[:64], residuals[:255], residuals + "\x00", residuals + "\x01", residuals + residuals} {
		expectBlob(t, "\x02\x01"+coder.Encode(s), api.Tile{}, api.ErrForm)
	}
	expectBlob(t, "\x02\x01"+coder.Encode(residuals), tile, api.OK)
}

// P12.4: bytes that begin with no form.
func TestUnknownForms(t *testing.T) {
	bodies := []string{"", "\x01\x02\x03\x04", bytesOf(ramp()), codedBlob(ramp(), 1)[1:], blobOf(ramp()), scatteredBytes(1, 30)}
	for form := 3; form < 256; form++ {
		for _, body := range bodies {
			expectBlob(t, string([]byte{byte(form)})+body, api.Tile{}, api.ErrForm)
		}
	}
	// Each form with the body of another one.
	for form := range 3 {
		for _, body := range bodies {
			blob := string([]byte{byte(form)}) + body
			_, ok := formed(blob)
			if !ok {
				expectBlob(t, blob, api.Tile{}, api.ErrForm)
			}
		}
	}
}

// P12.4: any blobs, against the definition.
func TestAnyBlobs(t *testing.T) {
	for n := 1; n <= 257; n++ {
		for form := range 4 {
			blob := string([]byte{byte(form)}) + scatteredBytes(4*n+form, n-1)
			expectRules(t, joined(partWith(0, 0, of(1, 2, 3, 4), blob)))
		}
		expectRules(t, joined(partWith(0, 0, of(1, 2, 3, 4), strings.Repeat("\x00", n))))
		expectRules(t, joined(partWith(0, 0, of(1, 1, 1, 1), strings.Repeat("\x01", n))))
		expectRules(t, joined(partWith(0, 0, of(2, 2, 2, 2), strings.Repeat("\x02", n))))
	}
}

// P12.4, P12.6: each byte of a blob changed in many ways: ErrSum under the old checksum, and under the right one whatever the definition says; other tiles are as they were.
func TestChangedBlobs(t *testing.T) {
	for _, tile := range []api.Tile{filled(of(1, 2, 3, 4)), ramp(), lit(0, of(9, 9, 9, 1)), noise(5, 256)} {
		blob := blobOf(tile)
		for i := range blob {
			for _, change := range []byte{1, 2, 3, 4, 16, 128, 255, byte(i) | 1} {
				changed := []byte(blob)
				changed[i] ^= change
				p := partWith(0, 0, meanOf(tile), string(changed))
				want, wantErr := p.decode()
				expectTile(t, file(t, joined(p)), 0, 0, want, wantErr)
				p.sum = crc(blob)
				s := joined(dotPart(-1, 0), p, dotPart(1, 0))
				f := file(t, s)
				expectTile(t, f, 0, 0, api.Tile{}, api.ErrSum)
				expectTile(t, f, 1, 0, filled(of(1, 2, 3, 4)), api.OK)
				expectRead(t, f, box(-8, 0, 0, 8), rasterOf(at(-1, 0, filled(of(1, 2, 3, 4)))), api.OK)
				expectRead(t, f, box(0, 0, 16, 8), api.Raster{}, api.ErrSum)
				expectAll(t, f, api.Raster{}, api.ErrSum)
				expectDecoded(t, f, 6)
				expectCheck(t, s, api.ErrSum)
			}
		}
	}
}

// P12.4, R2: a wrong checksum comes before a blob of no form.
func TestWrongChecksumOfWrongBlob(t *testing.T) {
	for _, blob := range []string{"\x00", "\x02", "\x09abc", "\x00\x00\x00\x00\x00", "\x02\x06\x00\x00\x00\x00", "\x01"} {
		for _, change := range []uint32{1, 1 << 31, 0xFF00, 0xFFFFFFFF} {
			p := partWith(0, 0, of(1, 2, 3, 4), blob)
			expectTile(t, file(t, joined(p)), 0, 0, api.Tile{}, api.ErrForm)
			p.sum ^= change
			expectTile(t, file(t, joined(p)), 0, 0, api.Tile{}, api.ErrSum)
			expectCheck(t, joined(p), api.ErrSum)
		}
	}
	for bit := range 32 {
		p := dotPart(0, 0)
		p.sum ^= 1 << bit
		expectTile(t, file(t, joined(p)), 0, 0, api.Tile{}, api.ErrSum)
	}
}

// touching returns the tiles of a raster that a rectangle touches.
func touching(r api.Raster, c api.Rect) int {
	n := 0
	for _, a := range r.Tiles {
		x0, y0, x1, y1 := max(8*a.Pos.X, c.X0), max(8*a.Pos.Y, c.Y0), min(8*a.Pos.X+8, c.X1), min(8*a.Pos.Y+8, c.Y1)
		if x0 < x1 && y0 < y1 {
			n++
		}
	}
	return n
}

// P12.4, P12.6: rectangles that hold all tiles, cut them, touch none, are empty, and are not valid; just the tiles that they touch are decoded.
func TestRead(t *testing.T) {
	for _, r := range []api.Raster{{}, many(1024), scattered(1, 30), scattered(2, 60), rasterOf(at(0, 0, ramp())), rasterOf(at(-8192, -8192, ramp()), at(0, 0, halves()), at(8191, 8191, noise(1, 256)))} {
		f := file(t, packedRaster(t, r))
		for _, x := range []struct {
			r     api.Rect
			valid bool
		}{
			{box(-65536, -65536, 65536, 65536), true}, {box(least, least, greatest, greatest), true}, {box(-1000, -1000, 1000, 1000), true},
			{box(0, 0, 8, 8), true}, {box(0, 0, 1, 1), true}, {box(7, 7, 8, 8), true}, {box(-1, -1, 1, 1), true}, {box(7, 7, 9, 9), true}, {box(-30, 5, 31, 6), true}, {box(3, -70, 4, 70), true}, {box(-13, -11, 17, 19), true}, {box(8, 8, 16, 16), true},
			{box(65535, 65535, 65536, 65536), true}, {box(65535, 65535, greatest, greatest), true}, {box(65536, 65536, greatest, greatest), true}, {box(least, least, -65535, -65535), true}, {box(least, least, -65536, -65536), true}, {box(20000, 20000, 20008, 20008), true},
			{box(least, 0, greatest, 1), true}, {box(0, least, 1, greatest), true}, {box(1<<62, 0, 1<<63-1, 8), true},
			{api.Rect{}, false}, {box(3, 3, 3, 5), false}, {box(3, 3, 5, 3), false}, {box(8, 0, 0, 8), false}, {box(0, 8, 8, 0), false}, {box(8, 8, 0, 0), false}, {box(greatest, greatest, least, least), false}, {box(greatest, 0, least, 8), false}, {box(4, 4, 4, 4), false},
		} {
			before := f.Decoded()
			want := raster.Crop(r, x.r)
			if !x.valid && len(want.Tiles) > 0 {
				t.Fatalf("an empty rectangle holds %d tiles", len(want.Tiles))
			}
			expectRead(t, f, x.r, want, api.OK)
			expectDecoded(t, f, before+touching(r, x.r))
		}
	}
}

// P12.4: a tile of which a rectangle contains only transparent pixels is decoded, but is not in the result.
func TestReadOfTransparentParts(t *testing.T) {
	f := file(t, packedRaster(t, rasterOf(at(0, 0, lit(0, of(1, 2, 3, 4))), at(1, 0, lit(63, of(5, 6, 7, 8))))))
	expectRead(t, f, box(1, 0, 15, 7), api.Raster{}, api.OK)
	expectDecoded(t, f, 2)
	expectRead(t, f, box(1, 0, 16, 8), rasterOf(at(1, 0, lit(63, of(5, 6, 7, 8)))), api.OK)
	expectDecoded(t, f, 4)
}

// P12.4: the first error in the order of the index ends Read and All; tiles behind it are not decoded, and tiles that are not touched do not matter.
func TestReadWithErrors(t *testing.T) {
	sum, form := dotPart(1, 0), partWith(2, 0, of(1, 2, 3, 4), "\x03")
	sum.sum ^= 1
	for _, x := range []struct {
		parts []part
		r     api.Rect
		want  api.Errno
		more  int
	}{
		{[]part{dotPart(0, 0), sum, form, dotPart(3, 0)}, box(0, 0, 32, 8), api.ErrSum, 2},
		{[]part{dotPart(0, 0), sum, form, dotPart(3, 0)}, box(15, 0, 17, 1), api.ErrSum, 1},
		{[]part{dotPart(0, 0), sum, form, dotPart(3, 0)}, box(16, 0, 32, 8), api.ErrForm, 1},
		{[]part{dotPart(0, 0), sum, form, dotPart(3, 0)}, box(0, 0, 8, 8), api.OK, 1},
		{[]part{dotPart(0, 0), sum, form, dotPart(3, 0)}, box(24, 0, 32, 8), api.OK, 1},
		{[]part{partWith(0, -1, of(1, 2, 3, 4), "\x02"), sum, form}, box(0, -8, 32, 8), api.ErrForm, 1},
		{[]part{partWith(5, -1, of(1, 2, 3, 4), "\x02"), sum}, box(0, -8, 99, 8), api.ErrForm, 1},
		{[]part{partWith(5, -1, of(1, 2, 3, 4), "\x02"), sum}, box(0, -8, 40, 8), api.ErrSum, 1},
		{[]part{dotPart(0, 0), dotPart(2, 0), partWith(0, 1, of(1, 2, 3, 4), "\x00")}, box(0, 0, 99, 99), api.ErrForm, 3},
	} {
		f := file(t, joined(x.parts...))
		got, err := f.Read(x.r)
		if err != x.want || x.want != api.OK && len(got.Tiles) > 0 {
			t.Errorf("Read of %v returns %d tiles and the error %d, not %d", x.r, len(got.Tiles), err, x.want)
		}
		expectDecoded(t, f, x.more)
	}
	f := file(t, joined(dotPart(0, 0), sum, form))
	expectAll(t, f, api.Raster{}, api.ErrSum)
	expectDecoded(t, f, 2)
	expectAll(t, f, api.Raster{}, api.ErrSum)
	expectDecoded(t, f, 4)
	f = file(t, joined(dotPart(0, 0), form, dotPart(3, 0)))
	expectAll(t, f, api.Raster{}, api.ErrForm)
	expectDecoded(t, f, 2)
}

// P12.4: All of no tile, of one, and of several.
func TestAll(t *testing.T) {
	expectAll(t, file(t, packedEmpty), api.Raster{}, api.OK)
	expectAll(t, file(t, packedSolid), rasterOf(at(5, -1, filled(of(9, 0, 0, 128)))), api.OK)
	expectAll(t, file(t, packedTwo), rasterOf(at(8191, -8192, filled(of(9, 0, 0, 128))), at(-8192, 8191, ramp())), api.OK)
}

// R3, R4: results share no memory with the file or with one another, and repeated calls return the same.
func TestResultsAreNew(t *testing.T) {
	r := many(30)
	f := file(t, packedRaster(t, r))
	for range 3 {
		all, err := f.All()
		if err != api.OK || !slices.Equal(all.Tiles, r.Tiles) {
			t.Fatalf("All returns other tiles, with error %d", err)
		}
		part, err := f.Read(f.Bounds())
		if err != api.OK || !slices.Equal(part.Tiles, r.Tiles) {
			t.Fatalf("Read returns other tiles, with error %d", err)
		}
		for i := range all.Tiles {
			all.Tiles[i].Pos.X += 1000
			all.Tiles[i].Tile[0] = of(1, 1, 1, 1)
		}
		if !slices.Equal(part.Tiles, r.Tiles) {
			t.Fatal("Read and All share memory")
		}
		part.Tiles[0] = api.TileAt{}
	}
}
