package stroke_test

import (
	"fmt"
	"hash/crc32"
	"testing"

	"gouache/api"
	"gouache/stroke"
)

// P14.2: dabs from a separate calculation with fractions, in another language: those of 400 strokes, of which the checksum is known.
func TestSeparateDabs(t *testing.T) {
	var text []byte
	count := 0
	for seed := range 400 {
		for _, d := range stroke.Dabs(scatteredStroke(seed)) {
			text = fmt.Appendf(text, "%d %d %d\n", d.X, d.Y, d.Radius)
			count++
		}
	}
	if count != 4906 || crc32.ChecksumIEEE(text) != 0x750e70de {
		t.Errorf("%d dabs with the checksum %#x", count, crc32.ChecksumIEEE(text))
	}
}

// P14.2: the first dabs of some of these strokes.
func TestSeparateFirstDabs(t *testing.T) {
	for _, x := range []struct {
		seed, count int
		want        []api.Dab
	}{
		{3, 16, []api.Dab{dab(306, -1, 17), dab(377, -2, 19), dab(447, -10, 19), dab(518, -19, 20)}},
		{5, 14, []api.Dab{dab(289, -191, 76), dab(289, -196, 76), dab(289, -201, 75), dab(289, -206, 74)}},
		{8, 1, []api.Dab{dab(-88, 94, 24)}},
		{13, 2, []api.Dab{dab(-251, 231, 24), dab(-251, 232, 43)}},
	} {
		got := stroke.Dabs(scatteredStroke(x.seed))
		if len(got) != x.count {
			t.Fatalf("with seed %d, there are %d dabs", x.seed, len(got))
		}
		for i, want := range x.want {
			if got[i] != want {
				t.Errorf("with seed %d, dab %d is %v, not %v", x.seed, i, got[i], want)
			}
		}
	}
}

// P14.3: coverages from a separate calculation.
func TestSeparateCoverages(t *testing.T) {
	var coverages []byte
	for x := -9; x < 25; x += 3 {
		for _, radius := range []int{1, 5, 11, 16, 30, 100, 256} {
			for column := -18; column <= 18; column++ {
				coverages = append(coverages, byte(stroke.Cover(dab(x, 3*x>>1-7, radius), column, column>>1-1)))
			}
		}
	}
	if crc32.ChecksumIEEE(coverages) != 0x198a4077 {
		t.Errorf("%d coverages with the checksum %#x", len(coverages), crc32.ChecksumIEEE(coverages))
	}
}

// P14.4: rasters from a separate calculation, each with ten strokes painted on one another.
func TestSeparateRasters(t *testing.T) {
	for group, want := range []struct {
		tiles    int
		checksum uint32
	}{{60, 0x238c9b37}, {29, 0x1afbc025}, {16, 0xe1e28ce3}, {91, 0xa1730fbf}, {63, 0x4d681469}, {52, 0x4c341ff3}} {
		var r api.Raster
		for i := range 10 {
			r = paint(t, r, scatteredStroke(10*group+i))
		}
		var text []byte
		for _, tile := range r.Tiles {
			text = fmt.Appendf(text, "%d %d\n", tile.Pos.X, tile.Pos.Y)
			for _, p := range tile.Tile {
				text = append(text, p.R, p.G, p.B, p.A)
			}
		}
		if len(r.Tiles) != want.tiles || crc32.ChecksumIEEE(text) != want.checksum {
			t.Errorf("the strokes of group %d paint %d tiles with the checksum %#x", group, len(r.Tiles), crc32.ChecksumIEEE(text))
		}
	}
}
