package tile_test

import (
	"crypto/sha256"
	"strings"
	"testing"

	"gouache/api"
	"gouache/digest"
	"gouache/tile"
)

// spelled returns the bytes of a tile, from the definition.
func spelled(all api.Tile) string {
	bytes := make([]byte, 256)
	for i, p := range all {
		bytes[4*i], bytes[4*i+1], bytes[4*i+2], bytes[4*i+3] = p.R, p.G, p.B, p.A
	}
	return string(bytes)
}

// P7.5: tiles of all kinds, in both directions.
func TestBytesAndRead(t *testing.T) {
	for i, all := range someTiles() {
		s := tile.Bytes(all)
		if s != spelled(all) {
			t.Errorf("Bytes of tile %d is %q", i, s)
		}
		if got, err := tile.Read(s); got != all || err != api.OK {
			t.Errorf("Read of the bytes of tile %d is %v, %v", i, got, err)
		}
	}
}

// P7.5: the channels 0, 127, 128 and 255 in each place of each pixel; transparent pixels keep their colours.
func TestBytesOfSomeChannels(t *testing.T) {
	for i := range api.TilePixels {
		for _, channels := range []string{"\x00\x7f\x80\xff", "\xff\x00\x7f\x80", "\x80\xff\x00\x7f", "\x7f\x80\xff\x00"} {
			s := strings.Repeat("\x00", 4*i) + channels + strings.Repeat("\xff", 252-4*i)
			all := with(filled(of(255, 255, 255, 255)), i, of(channels[0], channels[1], channels[2], channels[3]))
			for before := range i {
				all[before] = api.Pixel{}
			}
			if got := tile.Bytes(all); got != s {
				t.Errorf("Bytes of a tile with %q at %d is %q", channels, i, got)
			}
			if got, err := tile.Read(s); got != all || err != api.OK {
				t.Errorf("Read of %q at %d is %v, %v", channels, i, got, err)
			}
		}
	}
}

// P7.5: every string of 256 bytes is read, and is that of the tile.
func TestReadOfAllBytes(t *testing.T) {
	for shift := range 256 {
		s := make([]byte, 256)
		for i := range s {
			s[i] = byte(i + shift)
		}
		all, err := tile.Read(string(s))
		if err != api.OK || tile.Bytes(all) != string(s) {
			t.Errorf("Read of %q is %v, %v", s, all, err)
		}
	}
}

// P7.5: strings of any other length are an error, without a tile.
func TestReadOfOtherLengths(t *testing.T) {
	long := strings.Repeat("\x01\x02\xff\x80", 1<<15)
	for _, length := range []int{0, 1, 3, 4, 8, 64, 128, 252, 255, 257, 260, 511, 512, 65536, 65792, 1 << 17} {
		if got, err := tile.Read(long[:length]); got != (api.Tile{}) || err != api.ErrForm {
			t.Errorf("Read of %d bytes is %v, %v", length, got, err)
		}
	}
	if got, err := tile.Read(long[:256]); got[63] != of(1, 2, 255, 128) || err != api.OK {
		t.Errorf("Read of 256 bytes is %v, %v", got, err)
	}
}

// P7.5: the key is the SHA-256 digest of the bytes.
func TestKey(t *testing.T) {
	for i, all := range someTiles() {
		sum := sha256.Sum256([]byte(spelled(all)))
		if got := tile.Key(all); got != api.Digest(sum[:]) || got != digest.Of(tile.Bytes(all)) {
			t.Errorf("Key of tile %d is %s", i, digest.Hex(got))
		}
	}
	const zeros = "5341e6b2646979a70e57653007a1f310169421ec9bdd9f1a5648f75ade005af1"
	if got := digest.Hex(tile.Key(api.Tile{})); got != zeros {
		t.Errorf("Key of the zero tile is %s", got)
	}
}

// P7.7: two tiles that differ anywhere, be it in the colour of a transparent pixel, have different bytes and keys.
func TestBytesDiffer(t *testing.T) {
	tiles := []api.Tile{{}, different()}
	for i := range api.TilePixels {
		for _, p := range []api.Pixel{of(1, 0, 0, 0), of(0, 1, 0, 0), of(0, 0, 1, 0), of(0, 0, 0, 1)} {
			tiles = append(tiles, with(api.Tile{}, i, p))
		}
	}
	bytes, keys := map[string]bool{}, map[api.Digest]bool{}
	for _, all := range tiles {
		bytes[tile.Bytes(all)], keys[tile.Key(all)] = true, true
	}
	if len(bytes) != len(tiles) || len(keys) != len(tiles) {
		t.Errorf("%d tiles have %d different bytes and %d different keys", len(tiles), len(bytes), len(keys))
	}
}
