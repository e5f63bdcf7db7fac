package codec_test

import (
	"slices"
	"testing"

	"gouache/api"
	"gouache/codec"
	"gouache/predict"
)

const (
	packedEmpty = "\x47\x01\x01\x00\xd2\x02\xef\x8d"
	packedSolid = "\x47\x01\x0e\x01\x20\x05\x1f\xff\x09\x00\x00\x80\x05\x56\x92\x3b\xb7\xb8\x95\x9b\x49\x00\x09\x00\x00\x80"
	blobOfRamp  = "\x02\x05\x9b\xfc\xed\x01\xa9\xfa\x3e\x81\x58\xe8\x01\x00\xff\xea\x1c\x6a\x2c\x40\xee\x0c\x4b\xc9\xf7\x4a\xba\xf4\xcc\x82\x73\x5e\x6b\x9a\x0c\x4b\x3b\x14\xff\xff\xff\xd9\xe9\x77\x3c\x63\x8d"
	packedTwo   = "\x47\x01\x1b\x02\x3f\xff\x00\x00\x09\x00\x00\x80\x05\x56\x92\x3b\xb7\x00\x00\x3f\xff\x5d\x5d\x5d\xff\x2f\x65\x03\x72\xba\xe6\x37\x7e\xdb\x00\x09\x00\x00\x80" + blobOfRamp
)

// expectPack reports a call of Pack that returns anything else than a string, or an error.
func expectPack(t *testing.T, r api.Raster, want string, wantErr api.Errno) {
	t.Helper()
	if got, err := codec.Pack(r); got != want || err != wantErr {
		t.Errorf("Pack of %d tiles returns %.200x (%d bytes) and %d, not %.200x (%d bytes) and %d", len(r.Tiles), got, len(got), err, want, len(want), wantErr)
	}
}

// P12.1: the example of the chapter and others in bytes, which a separate program has calculated.
func TestPack(t *testing.T) {
	expectPack(t, api.Raster{}, packedEmpty, api.OK)
	expectPack(t, api.Raster{Tiles: []api.TileAt{}}, packedEmpty, api.OK)
	expectPack(t, rasterOf(at(5, -1, filled(of(9, 0, 0, 128)))), packedSolid, api.OK)
	expectPack(t, rasterOf(at(8191, -8192, filled(of(9, 0, 0, 128))), at(-8192, 8191, ramp())), packedTwo, api.OK)
	expectPack(t, rasterOf(at(0, 0, halves())), "\x47\x01\x0e\x01\x20\x00\x20\x00\xd5\x00\x2b\x99\x2d\xb2\xcb\xf9\x14\x1c\x61\xe8\x84"+
		"\x02\x02\x40\xff\xf0\x01\x71\xf1\xf7\xff\xff\xff\xff\xff\xff\xff\xff\xff\xff\xff\xff\xff\xff\xff\xff\xff\xff\xfe\xfe\x12\xda\x85\xc9\xea\x4e\x0f\x4d\xce\x24\x81\xe4\x1e\x7f\xf1\x53", api.OK)
}

// P12.1: rasters of all kinds, against the definition.
func TestPackOfManyRasters(t *testing.T) {
	for _, r := range someRasters() {
		expectPack(t, r, joined(partsOf(r)...), api.OK)
	}
	for seed := range 300 {
		for _, tile := range []api.Tile{slope(seed), noise(seed, 1+seed%256)} {
			r := rasterOf(at(seed, -seed, tile))
			expectPack(t, r, joined(partsOf(r)...), api.OK)
		}
	}
}

// P12.1: the four corners of the limits, and the places around the origin, where the bytes of a position change.
func TestPackOfPositions(t *testing.T) {
	coordinates := []int{-8192, -8191, -7937, -7936, -256, -1, 0, 1, 255, 256, 8190, 8191}
	for _, y := range coordinates {
		for _, x := range coordinates {
			r := rasterOf(at(x, y, filled(of(1, 2, 3, 4))))
			expectPack(t, r, joined(partWith(x, y, of(1, 2, 3, 4), "\x00\x01\x02\x03\x04")), api.OK)
		}
	}
}

// tileWithCode returns a tile whose blob with the best predictor has so many bytes. The noise ends before the tile does, so that there is something to be gained.
func tileWithCode(t *testing.T, size int) api.Tile {
	t.Helper()
	for seed := range 4000 {
		tile := noise(seed, 256)
		for i := 60 - seed%20; i < len(tile); i++ {
			tile[i] = tile[0]
		}
		if len(codedBlob(tile, predict.Best(tile))) == size {
			return tile
		}
	}
	t.Fatalf("none of the tiles has %d bytes", size)
	return api.Tile{}
}

// P12.1: blobs with a predictor of up to 256 bytes; beyond that, the bytes of the tile.
func TestPackOfLongCodes(t *testing.T) {
	for _, size := range []int{250, 255, 256, 257, 258, 260} {
		tile := tileWithCode(t, size)
		want := codedBlob(tile, predict.Best(tile))
		if size > 256 {
			want = "\x01" + bytesOf(tile)
		}
		expectPack(t, rasterOf(at(0, 0, tile)), joined(partWith(0, 0, meanOf(tile), want)), api.OK)
	}
}

// P12.1: a solid tile is packed into five bytes, be it ever so faint, and one that differs in one channel of one pixel is not solid.
func TestPackOfSolidTiles(t *testing.T) {
	for _, p := range []api.Pixel{of(0, 0, 0, 1), of(255, 255, 255, 255), of(1, 2, 3, 4), of(0, 0, 0, 255), of(255, 0, 0, 1)} {
		expectPack(t, rasterOf(at(1, 1, filled(p))), joined(partWith(1, 1, p, "\x00"+channels(p))), api.OK)
		for _, i := range []int{0, 1, 31, 63} {
			for _, other := range []api.Pixel{of(p.R^1, p.G, p.B, p.A), of(p.R, p.G^1, p.B, p.A), of(p.R, p.G, p.B^1, p.A), of(p.R, p.G, p.B, p.A^2)} {
				tile := filled(p)
				tile[i] = other
				expectPack(t, rasterOf(at(1, 1, tile)), joined(partWith(1, 1, meanOf(tile), codedBlob(tile, predict.Best(tile)))), api.OK)
			}
		}
	}
}

// P12.1: the preview pixel is the mean, which is the zero pixel if the tile is hardly to be seen.
func TestPackOfPreviewPixels(t *testing.T) {
	for _, x := range []struct {
		tile api.Tile
		want api.Pixel
	}{
		{lit(20, of(200, 100, 50, 1)), api.Pixel{}},
		{lit(20, of(200, 100, 50, 31)), api.Pixel{}},
		{lit(20, of(200, 100, 50, 32)), of(200, 100, 50, 1)},
		{lit(0, of(1, 2, 3, 255)), of(1, 2, 3, 4)},
		{halves(), of(213, 0, 43, 153)},
		{ramp(), of(93, 93, 93, 255)},
	} {
		expectPack(t, rasterOf(at(0, 0, x.tile)), joined(partWith(0, 0, x.want, blobOf(x.tile))), api.OK)
	}
}

// P12.1: rasters that are not valid.
func TestPackOfInvalidRasters(t *testing.T) {
	a, unclean := ramp(), ramp()
	unclean[63] = of(0, 0, 1, 0)
	tooMany := many(1024)
	tooMany.Tiles = append(tooMany.Tiles, at(0, 100, a))
	for _, r := range []api.Raster{
		tooMany,
		rasterOf(at(0, 0, a), at(0, 0, a)), rasterOf(at(1, 0, a), at(0, 0, a)), rasterOf(at(0, 1, a), at(0, 0, a)), rasterOf(at(0, 1, a), at(1, 0, a)),
		rasterOf(at(8192, 0, a)), rasterOf(at(0, 8192, a)), rasterOf(at(-8193, 0, a)), rasterOf(at(0, -8193, a)), rasterOf(at(least, 0, a)), rasterOf(at(0, greatest, a)), rasterOf(at(65536, 65536, a)),
		rasterOf(at(0, 0, api.Tile{})), rasterOf(at(0, 0, a), at(1, 0, api.Tile{})), rasterOf(at(0, 0, filled(of(1, 2, 3, 0)))),
		rasterOf(at(0, 0, unclean)), rasterOf(at(0, 0, a), at(0, 1, unclean)),
		{Tiles: slices.Repeat([]api.TileAt{at(0, 0, a)}, 5000)}, {Tiles: make([]api.TileAt, 1)},
	} {
		expectPack(t, r, "", api.ErrArg)
	}
}

// R3, R4: Pack leaves its argument as it is, also behind its end, and returns the same string each time.
func TestPackChangesNothing(t *testing.T) {
	whole := many(50)
	before := slices.Clone(whole.Tiles)
	part := api.Raster{Tiles: whole.Tiles[:20]}
	first := packedRaster(t, part)
	expectPack(t, part, first, api.OK)
	if !slices.Equal(whole.Tiles, before) {
		t.Error("Pack changes the raster")
	}
	f := file(t, first)
	whole.Tiles[3].Tile = filled(of(1, 1, 1, 1))
	expectAll(t, f, api.Raster{Tiles: before[:20]}, api.OK)
}
