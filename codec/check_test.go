package codec_test

import (
	"testing"

	"gouache/api"
)

// P12.5: every packed raster is right.
func TestCheck(t *testing.T) {
	for _, s := range []string{packedEmpty, packedSolid, packedTwo} {
		expectCheck(t, s, api.OK)
	}
	for _, r := range someRasters() {
		expectCheck(t, packedRaster(t, r), api.OK)
	}
}

// P12.5: blobs that Pack would not have chosen are right, too.
func TestCheckOfOtherForms(t *testing.T) {
	for _, tile := range []api.Tile{ramp(), halves(), filled(of(1, 2, 3, 4)), lit(3, of(4, 5, 6, 255)), noise(1, 4)} {
		expectCheck(t, joined(partWith(0, 0, meanOf(tile), "\x01"+bytesOf(tile))), api.OK)
		for predictor := range 6 {
			expectCheck(t, joined(partWith(0, 0, meanOf(tile), coded(t, tile, predictor))), api.OK)
		}
	}
}

// P12.5: preview pixels that differ from the mean, in any channel, also in a colour that is not to be seen.
func TestCheckOfPreviewPixels(t *testing.T) {
	for _, tile := range []api.Tile{filled(of(1, 2, 3, 4)), ramp(), halves(), lit(0, of(1, 2, 3, 255)), lit(20, of(200, 100, 50, 1)), noise(5, 256)} {
		m := meanOf(tile)
		expectCheck(t, joined(partWith(0, 0, m, blobOf(tile))), api.OK)
		for _, change := range []uint8{1, 2, 128, 255} {
			for _, p := range []api.Pixel{of(m.R^change, m.G, m.B, m.A), of(m.R, m.G^change, m.B, m.A), of(m.R, m.G, m.B^change, m.A), of(m.R, m.G, m.B, m.A^change)} {
				s := joined(partWith(0, 0, p, blobOf(tile)))
				expectCheck(t, s, api.ErrForm)
				expectCheck(t, joined(dotPart(0, -1), partWith(0, 0, p, blobOf(tile)), dotPart(0, 1)), api.ErrForm)
				f := file(t, s)
				expectTile(t, f, 0, 0, tile, api.OK)
				expectAll(t, f, rasterOf(at(0, 0, tile)), api.OK)
			}
		}
	}
}

// P12.5, R2: the first error in the order of the index; of one tile, those of decoding come before that of the preview pixel.
func TestCheckOfSeveralErrors(t *testing.T) {
	good, sum, form, mean := dotPart(0, 0), dotPart(1, 0), partWith(2, 0, of(1, 2, 3, 4), "\x03"), partWith(3, 0, of(1, 2, 3, 5), dotBlob)
	sum.sum ^= 1
	sumAndMean := mean
	sumAndMean.sum ^= 1
	later := func(p part, y int) part {
		p.y = y
		return p
	}
	for _, x := range []struct {
		parts []part
		want  api.Errno
	}{
		{[]part{good}, api.OK}, {[]part{sum}, api.ErrSum}, {[]part{form}, api.ErrForm}, {[]part{mean}, api.ErrForm}, {[]part{sumAndMean}, api.ErrSum},
		{[]part{good, sum}, api.ErrSum}, {[]part{good, sum, form}, api.ErrSum}, {[]part{good, sum, mean}, api.ErrSum}, {[]part{good, form, mean}, api.ErrForm},
		{[]part{form, later(sum, 1)}, api.ErrForm}, {[]part{mean, later(sum, 1)}, api.ErrForm}, {[]part{sumAndMean, later(form, 1)}, api.ErrSum}, {[]part{good, mean, later(good, 5), later(sum, 9)}, api.ErrForm},
	} {
		expectCheck(t, joined(x.parts...), x.want)
		expectCheck(t, joined(x.parts...)+"\x00", api.ErrForm)
		expectCheck(t, joined(x.parts...)[:len(joined(x.parts...))-1], api.ErrShort)
	}
}

// P12.5: any one byte of a packed raster changed.
func TestCheckOfChangedBytes(t *testing.T) {
	s := packedRaster(t, rasterOf(at(5, -1, filled(of(9, 0, 0, 128))), at(-3, 0, ramp()), at(4, 2, noise(5, 256))))
	for i := range s {
		for _, change := range []byte{1, 2, 4, 8, 16, 32, 64, 128, 255} {
			changed := []byte(s)
			changed[i] ^= change
			want := checked(string(changed))
			if want == api.OK {
				t.Fatalf("byte %d does not matter", i)
			}
			expectCheck(t, string(changed), want)
		}
	}
}
