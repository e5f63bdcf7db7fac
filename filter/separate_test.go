package filter_test

import (
	"hash/crc32"
	"testing"

	"gouache/api"
	"gouache/filter"
)

// P13.3: pixels from a separate calculation with fractions, in another language: 100 images for each kind of filters, of which the checksum of all channels is known.
func TestSeparateCalculation(t *testing.T) {
	for _, x := range []struct {
		kind, pixels int
		sum          uint32
	}{
		{api.Convolve, 1344, 0xdfab06a7}, {api.Median, 1308, 0x44543bbf}, {api.Erode, 1274, 0x53c3ca8f}, {api.Dilate, 1185, 0x878fbbe6},
		{api.Tone, 1385, 0x17e3eab5}, {api.Invert, 1256, 0x8584a81f}, {api.Threshold, 1245, 0x902005b4}, {api.Offset, 1208, 0x1ef5785e},
	} {
		var channels []byte
		for seed := range 100 {
			f, in, r := scatteredCase(x.kind, seed)
			m, err := filter.Apply(f, in, r)
			if err != api.OK || m.Rect != r {
				t.Fatalf("Apply of %v returns an image of %v and the error %d", f, m.Rect, err)
			}
			for _, p := range m.Pixels {
				channels = append(channels, p.R, p.G, p.B, p.A)
			}
		}
		if len(channels) != 4*x.pixels || crc32.ChecksumIEEE(channels) != x.sum {
			t.Errorf("kind %d: %d pixels with the checksum %#x, not %d with %#x", x.kind, len(channels)/4, crc32.ChecksumIEEE(channels), x.pixels, x.sum)
		}
	}
}

// P13.3: the first pixels of some of these images.
func TestSeparatePixels(t *testing.T) {
	for _, x := range []struct {
		kind, seed int
		want       [4]api.Pixel
	}{
		{api.Convolve, 1, [4]api.Pixel{of(150, 168, 88, 255), of(148, 123, 127, 255), of(186, 148, 73, 255), of(169, 129, 145, 255)}},
		{api.Convolve, 3, [4]api.Pixel{of(151, 56, 135, 37), of(182, 41, 185, 47), of(203, 27, 160, 33), of(251, 34, 118, 22)}},
		{api.Convolve, 4, [4]api.Pixel{{}, {}, of(0, 255, 255, 33), {}}},
		{api.Median, 0, [4]api.Pixel{of(121, 151, 164, 166), of(125, 151, 150, 159), of(106, 152, 150, 165), of(95, 152, 147, 169)}},
		{api.Median, 5, [4]api.Pixel{of(97, 184, 136, 228), of(168, 149, 187, 76), of(97, 184, 131, 238), of(118, 132, 187, 76)}},
		{api.Tone, 0, [4]api.Pixel{of(186, 36, 181, 101), of(124, 28, 235, 169), of(24, 56, 217, 11), {}}},
		{api.Tone, 4, [4]api.Pixel{of(179, 228, 47, 255), {}, of(4, 136, 164, 212), of(20, 50, 53, 197)}},
	} {
		f, in, r := scatteredCase(x.kind, x.seed)
		m, err := filter.Apply(f, in, r)
		if err != api.OK || [4]api.Pixel(m.Pixels[:4]) != x.want {
			t.Errorf("Apply of %v returns %v and the error %d, not %v", f, shown(m), err, x.want)
		}
	}
}
