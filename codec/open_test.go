package codec_test

import (
	"slices"
	"strings"
	"testing"

	"gouache/api"
	"gouache/codec"
)

// dotBlob is the blob of a solid tile.
const dotBlob = "\x00\x01\x02\x03\x04"

// dotPart returns a part with a solid tile.
func dotPart(x, y int) part {
	return partWith(x, y, of(1, 2, 3, 4), dotBlob)
}

// withLength returns a part with another length in the index.
func (p part) withLength(length int) part {
	p.length = length
	return p
}

// notMinimal returns an encoding with a group more than it needs.
func notMinimal(n int) string {
	s := []byte(leb(n))
	s[len(s)-1] |= 128
	return string(s) + "\x00"
}

// P12.2: the examples of the chapter, and other packed rasters.
func TestOpen(t *testing.T) {
	for _, s := range []string{packedEmpty, packedSolid, packedTwo, joined(), joined(dotPart(0, 0)), joined(dotPart(-8192, -8192), dotPart(8191, 8191))} {
		expectOpen(t, s, api.OK)
	}
	for _, r := range someRasters() {
		expectOpen(t, packedRaster(t, r), api.OK)
	}
}

// P12.2: strings that do not begin with 71 and 1, of which some would be right otherwise.
func TestOpenOfOtherBeginnings(t *testing.T) {
	expectOpen(t, "", api.ErrForm)
	expectOpen(t, packedSolid[2:], api.ErrForm)
	for _, s := range []string{"G", "\x01", "\x01G", "GG", "G\x00", "G\x02", "g\x01", " G\x01", "\xc7\x01", "G\x81", "\x00\x47\x01"} {
		expectOpen(t, s, api.ErrForm)
		expectOpen(t, s+packedSolid[2:], api.ErrForm)
		expectOpen(t, s+packedEmpty, api.ErrForm)
	}
	for b := range 256 {
		if b != 71 {
			expectOpen(t, string([]byte{byte(b)})+packedSolid[1:], api.ErrForm)
		}
		if b != 1 {
			expectOpen(t, "G"+string([]byte{byte(b)})+packedSolid[2:], api.ErrForm)
		}
		expectOpen(t, string([]byte{byte(b)}), api.ErrForm)
	}
}

// P12.2: every proper prefix of a packed raster: ErrForm before the second byte, and ErrShort from there on.
func TestOpenOfPrefixes(t *testing.T) {
	for _, s := range []string{packedEmpty, packedSolid, packedTwo, packedRaster(t, many(30)), joined(partOf(0, 0, noise(5, 256)))} {
		for i := range len(s) {
			want := api.ErrShort
			if i < 2 {
				want = api.ErrForm
			}
			expectOpen(t, s[:i], want)
			expectCheck(t, s[:i], want)
		}
	}
}

// P12.2: bytes appended, few and many.
func TestOpenOfLongerStrings(t *testing.T) {
	for _, s := range []string{packedEmpty, packedSolid, packedTwo, packedRaster(t, many(1024))} {
		for _, more := range []string{"\x00", "\xff", "G\x01", "abcde", packedEmpty, s, scatteredBytes(1, 300)} {
			expectOpen(t, s+more, api.ErrForm)
			expectCheck(t, s+more, api.ErrForm)
		}
	}
}

// P12.2: no complete encoding of the index: a length that is not minimal, that has too many groups, or that does not end, is negative or too great, also where the sum of it and of what precedes it wraps around.
func TestOpenOfIncompleteIndexes(t *testing.T) {
	index, sum := "\x00", "\xd2\x02\xef\x8d"
	for _, length := range []string{
		"\x80", "\x81", "\x80\x00", notMinimal(1), "\x81\x80\x00", "\xff\xff\xff\xff\xff\xff\xff\xff\xff\x02", strings.Repeat("\x80", 10) + "\x01", strings.Repeat("\xff", 20),
		leb(-1), leb(-2), leb(-6), leb(least), leb(greatest), leb(greatest - 5), leb(greatest - 16), leb(1 << 62), leb(1 << 32), leb(1<<32 + 1), leb(2), leb(3), leb(4), leb(5), leb(6), leb(127), leb(128),
	} {
		expectOpen(t, "G\x01"+length+index+sum, api.ErrShort)
	}
	expectOpen(t, "G\x01"+leb(1)+index+sum, api.OK)
	expectOpen(t, "G\x01"+leb(1)+index+sum[:3], api.ErrShort)
	expectOpen(t, "G\x01"+leb(1)+index, api.ErrShort)
	expectOpen(t, "G\x01"+leb(1), api.ErrShort)
	expectOpen(t, "G\x01", api.ErrShort)
}

// P12.2: every byte of the checksum of the index changed in every way.
func TestOpenOfChangedChecksums(t *testing.T) {
	for _, s := range []string{packedEmpty, packedSolid, packedTwo} {
		end := 3 + int(s[2]) + 4
		for i := end - 4; i < end; i++ {
			for change := 1; change < 256; change++ {
				changed := []byte(s)
				changed[i] ^= byte(change)
				expectOpen(t, string(changed), api.ErrSum)
				expectCheck(t, string(changed), api.ErrSum)
			}
		}
	}
	expectOpen(t, "G\x01\x01\x00\x8d\xef\x02\xd2", api.ErrSum)
	expectOpen(t, "G\x01\x00\x00\x00\x00\x01", api.ErrSum)
}

// P12.2: every byte of the index changed in every way: ErrSum under the old checksum, and under the right one what the index then says.
func TestOpenOfChangedIndexes(t *testing.T) {
	for _, parts := range [][]part{{}, {dotPart(0, 0)}, {dotPart(-1, 2), partOf(3, 2, ramp()), partOf(4, 4, noise(5, 256))}} {
		whole := joined(parts...)
		index, blobs := indexOf(len(parts), parts...), blobsOf(parts...)
		start := len(whole) - len(blobs) - 4 - len(index)
		for i := range index {
			for change := 1; change < 256; change++ {
				changed := []byte(index)
				changed[i] ^= byte(change)
				expectOpen(t, whole[:start]+string(changed)+whole[start+len(index):], api.ErrSum)
				s := sealed(string(changed), blobs)
				_, want := opened(s)
				expectOpen(t, s, want)
				expectCheck(t, s, checked(s))
			}
		}
	}
}

// P12.2: numbers of tiles: those that are not the number of the entries, negative ones, those that are not minimal, and more than 1024.
func TestOpenOfNumbersOfTiles(t *testing.T) {
	one := dotPart(0, 0)
	for _, n := range []int{0, 2, 3, 127, 128, 1023, 1024, 1025, 1 << 16, 1 << 32, 1<<32 + 1, 1 << 62, greatest, -1, -2, -1 << 32, least, least + 1} {
		expectOpen(t, sealed(indexOf(n, one), one.blob), api.ErrForm)
		if n != 0 {
			expectOpen(t, sealed(leb(n), ""), api.ErrForm)
		}
	}
	expectOpen(t, sealed(notMinimal(0), ""), api.ErrForm)
	expectOpen(t, sealed(notMinimal(1)+one.bytes(), one.blob), api.ErrForm)
	expectOpen(t, sealed("", ""), api.ErrForm)
	expectOpen(t, sealed("\x80", ""), api.ErrForm)
	expectOpen(t, sealed("\xff\xff\xff\xff\xff\xff\xff\xff\xff\x7f", ""), api.ErrForm)

	row := func(n int) []part {
		var parts []part
		for i := range n {
			parts = append(parts, dotPart(i%100, i/100))
		}
		return parts
	}
	for _, n := range []int{127, 128, 1023, 1024} {
		expectOpen(t, joined(row(n)...), api.OK)
	}
	for _, n := range []int{1025, 1026, 2000} {
		expectOpen(t, joined(row(n)...), api.ErrForm)
	}
}

// P12.2: an index that ends early, after any byte, or has bytes after its tiles, where those might be another tile or blob.
func TestOpenOfShorterAndLongerIndexes(t *testing.T) {
	for _, parts := range [][]part{{}, {dotPart(0, 0)}, {dotPart(0, 0), partOf(1, 0, ramp())}, {partOf(0, 0, noise(5, 256)), dotPart(0, 1), dotPart(1, 1)}} {
		index, blobs := indexOf(len(parts), parts...), blobsOf(parts...)
		for i := range index {
			expectOpen(t, sealed(index[:i], blobs), api.ErrForm)
			expectOpen(t, sealed(index[:i], index[i:]+blobs), api.ErrForm)
			expectOpen(t, sealed(index[:i], ""), api.ErrForm)
		}
		expectOpen(t, sealed(index, blobs), api.OK)
		for _, more := range []string{"\x00", "\x01", dotPart(5, 5).bytes(), "abc"} {
			expectOpen(t, sealed(index+more, blobs), api.ErrForm)
			expectOpen(t, sealed(index+more, blobs+dotBlob), api.ErrForm)
		}
	}
}

// P12.2: positions from -8192 to 8191, as far as two bytes go.
func TestOpenOfPositions(t *testing.T) {
	for _, inside := range []int{-8192, -8191, -1, 0, 1, 8190, 8191} {
		for _, other := range []int{-8192, 0, 8191} {
			expectOpen(t, joined(dotPart(inside, other)), api.OK)
			expectOpen(t, joined(dotPart(other, inside)), api.OK)
		}
		for _, outside := range []int{8192, 8193, 10000, 24575, 24576, 32768, 57342, 57343} {
			expectOpen(t, joined(dotPart(inside, outside)), api.ErrForm)
			expectOpen(t, joined(dotPart(outside, inside)), api.ErrForm)
			expectOpen(t, joined(dotPart(outside, outside)), api.ErrForm)
			expectOpen(t, joined(dotPart(-8192, -8192), dotPart(inside, outside)), api.ErrForm)
			expectOpen(t, joined(dotPart(-8192, -8192), dotPart(outside, inside)), api.ErrForm)
		}
	}
}

// P12.2: the order of the positions, by Y, then by X; none is there twice.
func TestOpenOfOrders(t *testing.T) {
	ordered := []api.TilePos{{X: -8192, Y: -8192}, {X: 8191, Y: -8192}, {X: 5, Y: -1}, {X: -3, Y: 0}, {X: -2, Y: 0}, {X: 0, Y: 0}, {X: 0, Y: 1}, {X: -8192, Y: 2}, {X: 300, Y: 2}, {X: -8192, Y: 8191}, {X: 8191, Y: 8191}}
	var all []part
	for i, a := range ordered {
		all = append(all, dotPart(a.X, a.Y))
		for j, b := range ordered {
			want := api.ErrForm
			if i < j {
				want = api.OK
			}
			expectOpen(t, joined(dotPart(a.X, a.Y), dotPart(b.X, b.Y)), want)
		}
	}
	expectOpen(t, joined(all...), api.OK)
	for i := 1; i < len(all); i++ {
		swapped, doubled := slices.Clone(all), slices.Clone(all)
		swapped[i-1], swapped[i] = swapped[i], swapped[i-1]
		doubled[i] = doubled[i-1]
		expectOpen(t, joined(swapped...), api.ErrForm)
		expectOpen(t, joined(doubled...), api.ErrForm)
	}
}

// P12.2: blob lengths from 1 to 257, with blobs of this length, whatever they are.
func TestOpenOfBlobLengths(t *testing.T) {
	for n := 1; n <= 257; n++ {
		expectOpen(t, joined(partWith(0, 0, of(1, 2, 3, 4), scatteredBytes(n, n))), api.OK)
		expectOpen(t, joined(partWith(0, 0, of(1, 2, 3, 4), scatteredBytes(n, n)), dotPart(1, 0)), api.OK)
	}
	for _, n := range []int{0, 258, 259, 300, 1000, 16384} {
		expectOpen(t, joined(partWith(0, 0, of(1, 2, 3, 4), scatteredBytes(n, n))), api.ErrForm)
		expectOpen(t, joined(dotPart(-1, 0), partWith(0, 0, of(1, 2, 3, 4), scatteredBytes(n, n))), api.ErrForm)
		expectOpen(t, joined(partWith(0, 0, of(1, 2, 3, 4), scatteredBytes(n, n)), dotPart(1, 0)), api.ErrForm)
	}
	for _, n := range []int{-1, -5, -252, -1 << 32, least, greatest, 1 << 32, 1<<32 + 5, 1 << 62} {
		expectOpen(t, joined(dotPart(0, 0).withLength(n)), api.ErrForm)
		expectOpen(t, joined(dotPart(0, 0), dotPart(1, 0).withLength(n)), api.ErrForm)
	}
	p := dotPart(0, 0)
	long := strings.Replace(p.bytes(), "\x05", notMinimal(5), 1)
	expectOpen(t, sealed(leb(1)+long, p.blob), api.ErrForm)
}

// P12.2: fewer bytes than the sum of the blob lengths, or more, with the right index.
func TestOpenOfOtherSums(t *testing.T) {
	parts := []part{dotPart(0, 0), partOf(1, 0, ramp()), partOf(2, 0, noise(5, 256))}
	index, blobs := indexOf(3, parts...), blobsOf(parts...)
	for i := range blobs {
		expectOpen(t, sealed(index, blobs[:i]), api.ErrShort)
	}
	expectOpen(t, sealed(index, blobs), api.OK)
	expectOpen(t, sealed(index, blobs+"\x00"), api.ErrForm)
	expectOpen(t, sealed(index, blobs+blobs), api.ErrForm)
	for _, x := range []struct {
		lengths [3]int
		want    api.Errno
	}{
		{[3]int{5, 47, 257}, api.OK}, {[3]int{47, 5, 257}, api.OK}, {[3]int{257, 47, 5}, api.OK}, {[3]int{6, 47, 256}, api.OK}, {[3]int{52, 1, 256}, api.OK},
		{[3]int{6, 47, 257}, api.ErrShort}, {[3]int{257, 257, 257}, api.ErrShort}, {[3]int{4, 47, 257}, api.ErrForm}, {[3]int{1, 1, 1}, api.ErrForm},
	} {
		other := []part{parts[0].withLength(x.lengths[0]), parts[1].withLength(x.lengths[1]), parts[2].withLength(x.lengths[2])}
		expectOpen(t, sealed(indexOf(3, other...), blobs), x.want)
	}
}

// P12.2: checksums of blobs and preview pixels may be anything, and so may what the blobs contain.
func TestOpenLooksAtNoBlob(t *testing.T) {
	for _, p := range []part{
		{0, 0, of(1, 2, 3, 4), 5, 0, dotBlob}, {0, 0, of(1, 2, 3, 4), 5, 1<<32 - 1, dotBlob}, {0, 0, of(1, 2, 3, 0), 5, crc(dotBlob), dotBlob}, {0, 0, api.Pixel{}, 5, crc(dotBlob), dotBlob},
		partWith(0, 0, of(255, 255, 255, 255), "\x03"), partWith(0, 0, api.Pixel{}, "\x00"), partWith(0, 0, api.Pixel{}, "\x02"),
	} {
		expectOpen(t, joined(p), api.OK)
		expectOpen(t, joined(dotPart(0, -1), p, dotPart(1, 0)), api.OK)
	}
}

// P12.2, R2: where several conditions hold, the first one counts.
func TestOpenOfSeveralErrors(t *testing.T) {
	bad, wrongSum := dotPart(8192, 0), "\x00\x00\x00\x00"
	unsealed := func(index, blobs string) string { return "G\x01" + leb(len(index)) + index + wrongSum + blobs }
	for _, x := range []struct {
		s    string
		want api.Errno
	}{
		{"G\x02", api.ErrForm}, {"G\x02\x05", api.ErrForm}, {"H" + packedSolid[1:20], api.ErrForm},
		{"H" + unsealed("\x00", "")[1:], api.ErrForm},
		{unsealed("\x05", "")[:6], api.ErrShort}, {unsealed(indexOf(1, bad), "")[:20], api.ErrShort},
		{unsealed(indexOf(1, bad), dotBlob), api.ErrSum}, {unsealed(indexOf(1, bad), ""), api.ErrSum}, {unsealed(indexOf(1, bad), dotBlob+"abc"), api.ErrSum},
		{unsealed(indexOf(1, dotPart(0, 0)), ""), api.ErrSum}, {unsealed(indexOf(1, dotPart(0, 0)), dotBlob+"abc"), api.ErrSum},
		// The checksum of the empty string is 0.
		{unsealed("", ""), api.ErrForm},
		{unsealed("\x01", ""), api.ErrSum}, {unsealed(leb(1025), ""), api.ErrSum},
		{sealed(indexOf(1, bad), ""), api.ErrForm}, {sealed(indexOf(1, bad), "abc"), api.ErrForm}, {sealed(leb(1025), ""), api.ErrForm}, {sealed("\x01", ""), api.ErrForm},
		{sealed(indexOf(2, dotPart(0, 0), dotPart(0, 0)), dotBlob), api.ErrForm}, {sealed(indexOf(1, dotPart(0, 0).withLength(258)), dotBlob), api.ErrForm},
		{sealed(indexOf(1, dotPart(0, 0)), "abcd"), api.ErrShort}, {sealed(indexOf(1, dotPart(0, 0)), "abcdef"), api.ErrForm},
	} {
		expectOpen(t, x.s, x.want)
		expectCheck(t, x.s, x.want)
	}
}

// R3, R4: files of the same string do not affect one another, and Open returns a new one each time.
func TestFilesAreIndependent(t *testing.T) {
	f, g := file(t, packedTwo), file(t, packedTwo)
	if f == g {
		t.Error("Open returns the same file twice")
	}
	expectTile(t, f, -8192, 8191, ramp(), api.OK)
	expectDecoded(t, f, 1)
	expectDecoded(t, g, 0)
	expectCheck(t, packedTwo, api.OK)
	expectDecoded(t, f, 1)
	if _, err := codec.Pack(many(3)); err != api.OK || f.Count() != 2 {
		t.Error("a file depends on other calls")
	}
}
