package octet_test

import (
	"encoding/binary"
	"hash/crc32"
	"math"
	"strings"
	"testing"

	"gouache/octet"
)

// someIntegers returns integers around all powers of two, of both signs.
func someIntegers() []int {
	integers := []int{0, math.MinInt, math.MaxInt, 258, 300, 65541, 0x0102030405060708, -0x0102030405060708}
	for bit := range 64 {
		power := 1 << bit
		integers = append(integers, power-1, power, power+1, -power-1, -power, -power+1)
	}
	return integers
}

// someStrings returns strings of many lengths, which contain all byte values.
func someStrings() []string {
	var strs []string
	for _, length := range []int{0, 1, 2, 3, 4, 5, 7, 8, 9, 31, 126, 127, 128, 129, 255, 256, 300, 1000, 16383, 16384} {
		strs = append(strs, strings.Repeat("\x00", length), strings.Repeat("\xff", length), scrambled(length))
	}
	return append(strs, "123456789", "caf\u00e9 \u4e16\u754c", "\xc3\x28 not UTF-8", "line\nbreak\r\x00")
}

// scrambled returns a string of the given length whose bytes follow a fixed, irregular rule.
func scrambled(length int) string {
	bytes := make([]byte, length)
	state := uint32(length) + 1
	for i := range bytes {
		state = state*1664525 + 1013904223
		bytes[i] = byte(state >> 24)
	}
	return string(bytes)
}

// P1.1: the examples of the chapter, and values that exceed their size.
func TestPutReturnsLowBytesInBigEndianOrder(t *testing.T) {
	for _, x := range []struct {
		n, size int
		want    string
	}{
		{258, 2, "\x01\x02"},
		{0, 1, "\x00"},
		{0, 3, "\x00\x00\x00"},
		{255, 1, "\xff"},
		{256, 1, "\x00"},
		{65541, 2, "\x00\x05"},
		{0x0102030405060708, 3, "\x06\x07\x08"},
		{0x0102030405060708, 7, "\x02\x03\x04\x05\x06\x07\x08"},
		{0x0102030405060708, 8, "\x01\x02\x03\x04\x05\x06\x07\x08"},
		{-1, 1, "\xff"},
		{-1, 8, "\xff\xff\xff\xff\xff\xff\xff\xff"},
		{-2, 4, "\xff\xff\xff\xfe"},
		{-129, 1, "\x7f"},
		{math.MinInt, 8, "\x80\x00\x00\x00\x00\x00\x00\x00"},
		{math.MinInt, 7, "\x00\x00\x00\x00\x00\x00\x00"},
		{math.MaxInt, 8, "\x7f\xff\xff\xff\xff\xff\xff\xff"},
	} {
		if s := octet.Put(x.n, x.size); s != x.want {
			t.Errorf("Put(%d, %d) returned %q, not %q", x.n, x.size, s, x.want)
		}
	}
}

// P1.1: every size is a suffix of the encoding with eight bytes; sizes outside of 0..8 are clamped.
func TestPutClampsSizes(t *testing.T) {
	for _, n := range someIntegers() {
		whole := string(binary.BigEndian.AppendUint64(nil, uint64(n)))
		for size := range 9 {
			if s := octet.Put(n, size); s != whole[8-size:] {
				t.Errorf("Put(%d, %d) returned %q", n, size, s)
			}
		}
		for _, size := range []int{-1, -2, -8, -9, math.MinInt32, math.MinInt} {
			if s := octet.Put(n, size); s != "" {
				t.Errorf("Put(%d, %d) returned %q", n, size, s)
			}
		}
		for _, size := range []int{9, 10, 16, 256, 264, math.MaxInt32, math.MaxInt} {
			if s := octet.Put(n, size); s != whole {
				t.Errorf("Put(%d, %d) returned %q", n, size, s)
			}
		}
	}
}

// P1.2: the least and the greatest integers of some numbers of groups, and negative integers.
func TestVarReturnsShortestGroups(t *testing.T) {
	for _, x := range []struct {
		n    int
		want string
	}{
		{0, "\x00"},
		{1, "\x01"},
		{127, "\x7f"},
		{128, "\x80\x01"},
		{255, "\xff\x01"},
		{300, "\xac\x02"},
		{16383, "\xff\x7f"},
		{16384, "\x80\x80\x01"},
		{math.MaxInt, "\xff\xff\xff\xff\xff\xff\xff\xff\x7f"},
		{math.MinInt, "\x80\x80\x80\x80\x80\x80\x80\x80\x80\x01"},
		{-1, "\xff\xff\xff\xff\xff\xff\xff\xff\xff\x01"},
		{-2, "\xfe\xff\xff\xff\xff\xff\xff\xff\xff\x01"},
		{-128, "\x80\xff\xff\xff\xff\xff\xff\xff\xff\x01"},
	} {
		if s := octet.Var(x.n); s != x.want {
			t.Errorf("Var(%d) returned %q, not %q", x.n, s, x.want)
		}
	}
	for _, n := range someIntegers() {
		if s, want := octet.Var(n), string(binary.AppendUvarint(nil, uint64(n))); s != want {
			t.Errorf("Var(%d) returned %q, not %q", n, s, want)
		}
	}
}

// P1.2: the length in bytes precedes the string, whatever its bytes are.
func TestTextReturnsLengthAndString(t *testing.T) {
	for s, want := range map[string]string{
		"":          "\x00",
		"ab":        "\x02ab",
		"\x00":      "\x01\x00",
		"\xff\x80":  "\x02\xff\x80",
		"\u00e9":    "\x02\u00e9",
		"\u4e16abc": "\x06\u4e16abc",
	} {
		if got := octet.Text(s); got != want {
			t.Errorf("Text(%q) returned %q, not %q", s, got, want)
		}
	}
	for _, s := range someStrings() {
		if octet.Text(s) != octet.Var(len(s))+s {
			t.Errorf("Text of a string of %d bytes", len(s))
		}
	}
}

// sumBySteps is the contract of Sum, word for word.
func sumBySteps(s string) uint32 {
	register := uint32(0xFFFFFFFF)
	for i := range len(s) {
		register ^= uint32(s[i])
		for range 8 {
			shiftedOut := register & 1
			register >>= 1
			if shiftedOut == 1 {
				register ^= 0xEDB88320
			}
		}
	}
	return ^register
}

// P1.3: published values, and the definition.
func TestSumIsTheChecksumOfIEEE(t *testing.T) {
	for s, want := range map[string]uint32{
		"":          0,
		"a":         0xE8B7BE43,
		"abc":       0x352441C2,
		"123456789": 0xCBF43926,
		"The quick brown fox jumps over the lazy dog": 0x414FA339,
		"\x00":             0xD202EF8D,
		"\x00\x00\x00\x00": 0x2144DF1C,
		"\xff\xff\xff\xff": 0xFFFFFFFF,
	} {
		if sum := octet.Sum(s); sum != want {
			t.Errorf("Sum(%q) returned %#x, not %#x", s, sum, want)
		}
	}
	for b := range 256 {
		s := string([]byte{byte(b)})
		if octet.Sum(s) != sumBySteps(s) {
			t.Errorf("Sum of the byte %d returned %#x", b, octet.Sum(s))
		}
	}
	for _, s := range someStrings() {
		if sum := octet.Sum(s); sum != sumBySteps(s) || sum != crc32.ChecksumIEEE([]byte(s)) {
			t.Errorf("Sum of a string of %d bytes returned %#x", len(s), sum)
		}
	}
}

// P1.6: changes within four consecutive positions change the checksum.
func TestSumDetectsShortChanges(t *testing.T) {
	patterns := []string{"\x01\x00\x00\x01", "\x80\x00\x00\x80", "\xff\xff\xff\xff", "\x00\x00\x00\x01", "\x20\x83\xb8\xed", "\xed\xb8\x83\x20"}
	for i := 1; i < 256; i++ {
		single := string([]byte{byte(i), 0, 0, 0})
		patterns = append(patterns, single, scrambled(i + 4)[i:])
	}
	for length := 4; length < 20; length++ {
		s := scrambled(length)
		for at := 0; at+4 <= length; at++ {
			for _, pattern := range patterns {
				change := strings.Repeat("\x00", at) + pattern + strings.Repeat("\x00", length-at-4)
				if octet.Sum(combined(s, change)) == octet.Sum(s) {
					t.Fatalf("Sum does not detect the change %q at %d of %d bytes", pattern, at, length)
				}
			}
		}
	}
}

// P1.6: shorter changes, at the ends of strings of fewer than four bytes too.
func TestSumDetectsEveryChangeOfTwoBytes(t *testing.T) {
	for _, s := range []string{"\x00\x00", "ab", "\xff\xff"} {
		for change := 1; change < 65536; change++ {
			if octet.Sum(combined(s, octet.Put(change, 2))) == octet.Sum(s) {
				t.Fatalf("Sum does not detect the change %#x of %q", change, s)
			}
		}
	}
}

// combined returns the bytewise exclusive or of two strings of equal length.
func combined(a, b string) string {
	bytes := []byte(a)
	for i := range bytes {
		bytes[i] ^= b[i]
	}
	return string(bytes)
}

// P1.6: the checksum of an exclusive or of three strings.
func TestSumOfThreeStringsCombined(t *testing.T) {
	for length := range 70 {
		a, b, c := scrambled(length), scrambled(length + 1)[1:], strings.Repeat("\xa5", length)
		for _, x := range [][3]string{{a, b, c}, {a, a, b}, {c, c, c}, {b, strings.Repeat("\x00", length), a}} {
			whole := octet.Sum(combined(combined(x[0], x[1]), x[2]))
			if whole != octet.Sum(x[0])^octet.Sum(x[1])^octet.Sum(x[2]) {
				t.Errorf("strings of %d bytes: the checksum of the exclusive or is %#x", length, whole)
			}
		}
	}
}

// R4: the same calls return the same results, whatever was called in between.
func TestEncodersKeepNoState(t *testing.T) {
	put, variable, text, sum := octet.Put(258, 4), octet.Var(-5), octet.Text("kept"), octet.Sum("kept")
	for _, s := range someStrings() {
		octet.Sum(s)
		octet.Put(len(s), 8)
		octet.Var(len(s))
	}
	if octet.Put(258, 4) != put || octet.Var(-5) != variable || octet.Text("kept") != text || octet.Sum("kept") != sum {
		t.Error("a repeated call returned something else")
	}
}
