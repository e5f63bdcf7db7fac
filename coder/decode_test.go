package coder_test

import (
	"strings"
	"testing"

	"gouache/api"
	"gouache/coder"
)

// expectDecode reports a call of Decode that returns anything else than the definition.
func expectDecode(t *testing.T, s string, n int) {
	t.Helper()
	got, err := coder.Decode(s, n)
	if want, wantErr := decoded(s, n); got != want || err != wantErr {
		t.Errorf("Decode of %d bytes from %.60x (%d bytes) returns %.60x and %d, not %.60x and %d", n, s, len(s), got, err, want, wantErr)
	}
}

// expectDecoded reports a call of Decode that returns anything else than a string, or an error.
func expectDecoded(t *testing.T, s string, n int, want string, wantErr api.Errno) {
	t.Helper()
	if got, err := coder.Decode(s, n); got != want || err != wantErr {
		t.Errorf("Decode of %d bytes from %.60x (%d bytes) returns %.60x and %d, not %.60x and %d", n, s, len(s), got, err, want, wantErr)
	}
}

// P11.4: the example of the chapter, and other strings in numbers.
func TestDecode(t *testing.T) {
	expectDecoded(t, "\x00\x00\x00\x00", 0, "", api.OK)
	expectDecoded(t, "\x9d\xff\xf0\x05", 1, "a", api.OK)
	expectDecoded(t, "\xfe\xff\xf8\x08", 1, "\x00", api.OK)
	expectDecoded(t, "\x00\x00\x00\x00\x00", 1, "\xff", api.OK)
	expectDecoded(t, "\x9e\x9b\x62\xe0\xc4", 2, "ab", api.OK)
	expectDecoded(t, "\x97\x99\x0b\x18\x74\x45\x8c\xe6\x04\x16\xf3\xa4\x4d\x84\xc1", 12, "hello, world", api.OK)
	expectDecoded(t, strings.Repeat("\x00", 8), 5, "\xff\xff\xff\xff\xff", api.OK)

	expectDecoded(t, "\x9d\xff\xf0\x04", 1, "", api.ErrForm)
	expectDecoded(t, "\x9d\xff\xf0\x06", 1, "", api.ErrForm)
	expectDecoded(t, "\x9d\xff\xf0", 1, "", api.ErrForm)
	expectDecoded(t, "\x00\x00\x00\x00", 1, "", api.ErrForm)
	expectDecoded(t, "\x00\x00\x00\x00\x00\x00", 1, "", api.ErrForm)
	expectDecoded(t, "\x00\x00\x00\x01", 0, "", api.ErrForm)
}

// P11.4, P11.5: Decode inverts Encode, up to 65536 bytes, and not beyond.
func TestDecodeInvertsEncode(t *testing.T) {
	long := append(manyStrings(), scatteredBytes(3, 65536), scatteredBytes(4, 65535), strings.Repeat("\x00", 65536), strings.Repeat("\xff", 65536), strings.Repeat("abc\x00", 16384))
	for _, s := range long {
		expectDecoded(t, coder.Encode(s), len(s), s, api.OK)
	}
	for b := range 256 {
		s := string([]byte{byte(b)})
		expectDecoded(t, coder.Encode(s), 1, s, api.OK)
		expectDecoded(t, coder.Encode(s+s), 2, s+s, api.OK)
	}
	for seed := range uint64(500) {
		next := scatter(seed)
		s := scatteredBytes(seed, next(40))
		expectDecoded(t, coder.Encode(s), len(s), s, api.OK)
	}
	s := scatteredBytes(5, 65537)
	expectDecoded(t, coder.Encode(s), 65537, "", api.ErrArg)
}

// P11.4: numbers of bytes out of range, where ErrArg comes before ErrForm, and in range.
func TestDecodeOfNumbers(t *testing.T) {
	for _, s := range []string{"", "\x00", "\x00\x00\x00\x00", "\x9d\xff\xf0\x05", "\x9d\xff\xf0\x05\x00", "\xff\xff\xff\xff", scatteredBytes(6, 100), coder.Encode(scatteredBytes(7, 65536))} {
		for _, n := range []int{-1, -2, -65536, -1 << 31, -1 << 32, -1<<32 + 1, 65537, 65538, 1 << 17, 1 << 31, 1 << 32, 1<<32 + 1, 1<<62 + 1, least, least + 1, greatest, greatest - 1} {
			expectDecoded(t, s, n, "", api.ErrArg)
		}
		for _, n := range []int{0, 1, 2, 3, 255, 256, 1000, 65535, 65536} {
			expectDecode(t, s, n)
		}
	}
}

// P11.4: one byte less and one more than there are, and none. This is an error, unless the shorter or the longer string has the same encoding.
func TestDecodeOfOtherLengths(t *testing.T) {
	for _, s := range manyStrings() {
		for _, n := range []int{0, len(s) - 1, len(s) + 1, len(s) + 2, 2 * len(s)} {
			expectDecode(t, coder.Encode(s), n)
		}
	}
	expectDecoded(t, coder.Encode("hello, world"), 0, "", api.ErrForm)
	expectDecoded(t, coder.Encode("hello, world"), 11, "", api.ErrForm)
	expectDecoded(t, coder.Encode("hello, world"), 13, "", api.ErrForm)
	// Bits 1 never raise low, so that many strings of bytes of 255 are encoded as zeros. 39 to 43 of them need 24 bytes.
	zeros := strings.Repeat("\x00", 24)
	for n := 30; n <= 50; n++ {
		if n < 39 || n > 43 {
			expectDecoded(t, zeros, n, "", api.ErrForm)
		} else {
			expectDecoded(t, zeros, n, strings.Repeat("\xff", n), api.OK)
		}
	}
}

// P11.4: bytes appended to an encoding or missing in it are an error, even zeros, which are what a reader sees after the end.
func TestDecodeOfLongerAndShorterStrings(t *testing.T) {
	for _, s := range manyStrings() {
		whole := coder.Encode(s)
		for _, more := range []string{"\x00", "\xff", "a", "\x00\x00", "\x00\x00\x00\x00", scatteredBytes(1, 10)} {
			expectDecoded(t, whole+more, len(s), "", api.ErrForm)
		}
		for less := 1; less <= min(len(whole), 8); less++ {
			expectDecoded(t, whole[:len(whole)-less], len(s), "", api.ErrForm)
		}
		expectDecoded(t, "\x00"+whole, len(s), "", api.ErrForm)
		expectDecode(t, whole[1:], len(s))
	}
	for _, n := range []int{0, 1, 2, 100, 65536} {
		expectDecoded(t, "", n, "", api.ErrForm)
	}
}

// P11.4: one byte changed: mostly an error, otherwise the encoding of another string, which is returned then.
func TestDecodeOfChangedBytes(t *testing.T) {
	for _, s := range []string{"", "a", "\x00", "\xff", "hello, world", "\x00\x00\x00\x00\x00", strings.Repeat("a", 20), scatteredBytes(1, 30)} {
		whole := coder.Encode(s)
		for at := range len(whole) {
			for change := 1; change < 256; change++ {
				changed := []byte(whole)
				changed[at] += byte(change)
				expectDecode(t, string(changed), len(s))
				if got, err := coder.Decode(string(changed), len(s)); err == api.OK && got == s {
					t.Errorf("%x, which is not the encoding of %x, is decoded as such", changed, s)
				}
			}
		}
	}
	expectDecoded(t, "\x9d\xff\xf0\x05", 1, "a", api.OK)
	expectDecoded(t, "\x9c\xff\xf0\x05", 1, "b", api.OK)
	expectDecoded(t, "\x1e\xff\xf0\x05", 1, "\xe0", api.OK)
	expectDecoded(t, "\x9d\xff\xf0\x85", 1, "", api.ErrForm)
	expectDecoded(t, "\x9d\xff\xf1\x05", 1, "", api.ErrForm)
	expectDecoded(t, "\x9d\xfe\xf0\x05", 1, "", api.ErrForm)
}

// P11.4: any strings and numbers, against the definition.
func TestDecodeOfAnyBytes(t *testing.T) {
	for _, s := range someInputs() {
		for _, n := range []int{0, 1, 2, 3, 7, 100, 1000} {
			expectDecode(t, s, n)
		}
	}
	// Of the codes of a byte only one is its encoding, although all of them are read as the same bits.
	for b := range 256 {
		s := coder.Encode(string([]byte{byte(b)}))
		for change := range 256 {
			expectDecode(t, s[:len(s)-1]+string([]byte{byte(change)}), 1)
		}
	}
}
