package codec_test

import (
	"strings"
	"testing"

	"gouache/api"
	"gouache/codec"
	"gouache/raster"
)

// P12.6: every valid raster can be packed, and read back, as a whole, in parts, and tile by tile.
func TestPackedRastersAreLossless(t *testing.T) {
	for _, r := range someRasters() {
		s := packedRaster(t, r)
		f := file(t, s)
		expectAll(t, f, r, api.OK)
		expectRead(t, f, f.Bounds(), r, api.OK)
		for seed := range 10 {
			next := scatter(seed)
			x, y := next(400)-200, next(300)-150
			c := box(x, y, x+next(120), y+next(120))
			before := f.Decoded()
			expectRead(t, f, c, raster.Crop(r, c), api.OK)
			expectDecoded(t, f, before+touching(r, c))
		}
		for _, a := range r.Tiles {
			expectTile(t, f, a.Pos.X, a.Pos.Y, a.Tile, api.OK)
			beside := api.TilePos{X: a.Pos.X + 1, Y: a.Pos.Y}
			expectTile(t, f, beside.X, beside.Y, raster.Tile(r, beside), api.OK)
		}
		expectCheck(t, s, api.OK)
	}
	for seed := range 1000 {
		r := rasterOf(at(-1, 3, slope(seed)), at(0, 3, noise(seed, 1+seed%256)))
		f := file(t, packedRaster(t, r))
		expectAll(t, f, r, api.OK)
	}
}

// P12.6: a packed raster is packed again to the same string.
func TestPackIsUnique(t *testing.T) {
	for _, r := range someRasters() {
		s := packedRaster(t, r)
		again, err := file(t, s).All()
		if err != api.OK {
			t.Errorf("All returns the error %d", err)
		}
		expectPack(t, again, s, api.OK)
	}
}

// P12.6: any changed byte in a blob affects only the tile it belongs to.
func TestChangedBytesAffectOneTile(t *testing.T) {
	r := many(40)
	s := packedRaster(t, r)
	parts, _ := opened(s)
	end := len(s) - len(blobsOf(parts...))
	for i, p := range parts {
		for _, n := range []int{0, 1, p.length / 2, p.length - 1} {
			changed := []byte(s)
			changed[end+n] ^= byte(1 + n%255)
			f := file(t, string(changed))
			for j, a := range r.Tiles {
				if i == j {
					expectTile(t, f, a.Pos.X, a.Pos.Y, api.Tile{}, api.ErrSum)
				} else if i%8 == j%8 {
					expectTile(t, f, a.Pos.X, a.Pos.Y, a.Tile, api.OK)
				}
			}
		}
		end += p.length
	}
}

// P1, R2, R4, R5: all calls, with rasters and strings of all kinds.
func TestManyStrings(t *testing.T) {
	for _, r := range someRasters() {
		if len(r.Tiles) < 200 {
			expectRules(t, packedRaster(t, r))
		}
	}
	bad := dotPart(4, 0)
	bad.sum++
	for _, parts := range [][]part{
		{dotPart(0, 0), bad, dotPart(5, 0)}, {partWith(0, 0, of(1, 2, 3, 0), dotBlob), partWith(1, 0, of(1, 2, 3, 4), "\x07")}, {bad}, {partWith(8191, 8191, api.Pixel{}, "\x02\x05"), partWith(-8192, 8191, of(1, 1, 1, 1), "\x01")},
	} {
		expectRules(t, joined(parts...))
	}
	for n := range 60 {
		for seed := range 10 {
			s := scatteredBytes(100*n+seed, n)
			for _, before := range []string{"", "G", "G\x01", "G\x01\x00\x00\x00\x00\x00"} {
				expectRules(t, before+s)
			}
			expectRules(t, sealed(s, ""))
			expectRules(t, sealed("\x00"+s, s))
			expectRules(t, sealed("\x01\x20\x00\x20\x00"+s, s))
		}
	}
}

// damaged returns a packed raster with some of its parts changed, under right checksums or wrong ones.
func damaged(seed int) string {
	next := scatter(seed)
	parts := partsOf(scattered(seed, 1+next(6)))
	for i := range parts {
		p := &parts[i]
		blob := []byte(p.blob)
		switch next(14) {
		case 0:
			blob[next(len(blob))] ^= byte(1 + next(255))
			p.blob, p.sum = string(blob), crc(string(blob))
		case 1:
			blob[next(len(blob))] ^= byte(1 + next(255))
			p.blob = string(blob)
		case 2:
			p.blob = p.blob[:1+next(len(blob))]
			p.length, p.sum = len(p.blob), crc(p.blob)
		case 3:
			p.preview = of(uint8(next(256)), uint8(next(256)), uint8(next(256)), uint8(next(4)))
		case 4:
			p.length += next(3) - 1
		case 5:
			p.x += next(5) - 2
		case 6:
			p.y += next(3) - 1
		}
	}
	s := joined(parts...)
	switch next(8) {
	case 0:
		s = s[:next(len(s))]
	case 1:
		s += scatteredBytes(seed, 1+next(9))
	case 2:
		changed := []byte(s)
		changed[next(len(changed))] ^= byte(1 + next(255))
		s = string(changed)
	case 3:
		s = sealed(indexOf(len(parts)+next(3)-1, parts...), blobsOf(parts...))
	}
	return s
}

// P1, R2: damaged packed rasters, of all errors and of none.
func TestDamagedStrings(t *testing.T) {
	errs := map[api.Errno]int{}
	for seed := range 1500 {
		s := damaged(seed)
		expectRules(t, s)
		errs[checked(s)]++
	}
	for _, err := range []api.Errno{api.OK, api.ErrShort, api.ErrForm, api.ErrSum} {
		if errs[err] < 50 {
			t.Errorf("only %d of the strings are of error %d", errs[err], err)
		}
	}
}

// P1, R2: rasters that need not be valid are packed to what can be read back, or not at all.
func TestManyArguments(t *testing.T) {
	for seed := range 500 {
		next := scatter(seed)
		r := scattered(seed, next(5))
		if len(r.Tiles) > 0 {
			a := &r.Tiles[next(len(r.Tiles))]
			switch next(5) {
			case 0:
				a.Tile[next(64)].A = 0
			case 1:
				a.Pos.X += next(20000) - 10000
			case 2:
				a.Pos.Y += next(3) - 1
			case 3:
				a.Tile = api.Tile{}
			}
		}
		if !raster.Valid(r) {
			expectPack(t, r, "", api.ErrArg)
			continue
		}
		expectAll(t, file(t, packedRaster(t, r)), r, api.OK)
	}
}

// P1, R2, R4, R5: all calls with arbitrary strings, as they are, as an index under the right checksum, and as a blob.
func FuzzCodecFollowsItsRules(f *testing.F) {
	f.Add("", "")
	f.Add(packedEmpty, "\x00")
	f.Add(packedSolid, dotBlob)
	f.Add(packedTwo, blobOfRamp)
	f.Add("G\x01\x80\x00", "\x02")
	f.Add(indexOf(1, dotPart(0, 0)), dotBlob)
	f.Add(indexOf(2, dotPart(0, 0), dotPart(1, 0)), dotBlob+dotBlob)
	f.Add(leb(-1), strings.Repeat("\x01", 257))
	f.Fuzz(func(t *testing.T, s, blob string) {
		if len(s) > 1<<12 || len(blob) > 1<<12 {
			t.Skip("too long to be looked at many times")
		}
		expectRules(t, s)
		expectRules(t, "G\x01"+s)
		expectRules(t, sealed(s, blob))
		expectRules(t, joined(partWith(0, 0, meanOf(ramp()), blob), dotPart(0, 1)))
		if err := codec.Check(s); err != checked(s) {
			t.Errorf("Check returns %d, and then another error", err)
		}
	})
}
