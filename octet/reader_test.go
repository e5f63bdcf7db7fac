package octet_test

import (
	"math"
	"strings"
	"testing"

	"gouache/octet"
)

// expectState reports an error unless the reader is at the given position of a string of the given length.
func expectState(t *testing.T, what string, r *octet.Reader, at, left int, failed bool) {
	t.Helper()
	if r.At() != at || r.Left() != left || r.Failed() != failed {
		t.Errorf("%s: At %d, Left %d, Failed %v, not %d, %d, %v", what, r.At(), r.Left(), r.Failed(), at, left, failed)
	}
}

// expectFailed reports an error unless the reader has failed at the given position and stays failed there, whatever is called.
func expectFailed(t *testing.T, what string, r *octet.Reader, at, left int) {
	t.Helper()
	expectState(t, what, r, at, left, true)
	for range 2 {
		if n := r.Num(0); n != 0 {
			t.Errorf("%s: Num(0) returned %d after the failure", what, n)
		}
		if n := r.Num(1); n != 0 {
			t.Errorf("%s: Num(1) returned %d after the failure", what, n)
		}
		if n := r.Var(); n != 0 {
			t.Errorf("%s: Var returned %d after the failure", what, n)
		}
		if s := r.Text(); s != "" {
			t.Errorf("%s: Text returned %q after the failure", what, s)
		}
		for _, n := range []int{0, 1, -1} {
			if s := r.Take(n); s != "" {
				t.Errorf("%s: Take(%d) returned %q after the failure", what, n, s)
			}
		}
		expectState(t, what+", later", r, at, left, true)
	}
}

// P1.4: one encoding after the other, and the position after each of them.
func TestReaderAdvancesPastWhatItDecodes(t *testing.T) {
	r := octet.Read("\x01\x02\xac\x02\x02ab\x00xyz\x05")
	expectState(t, "Read", r, 0, 12, false)
	if n := r.Num(2); n != 258 {
		t.Errorf("Num returned %d", n)
	}
	expectState(t, "Num", r, 2, 10, false)
	if n := r.Var(); n != 300 {
		t.Errorf("Var returned %d", n)
	}
	expectState(t, "Var", r, 4, 8, false)
	if s := r.Text(); s != "ab" {
		t.Errorf("Text returned %q", s)
	}
	expectState(t, "Text", r, 7, 5, false)
	if s := r.Text(); s != "" {
		t.Errorf("Text returned %q", s)
	}
	expectState(t, "an empty Text", r, 8, 4, false)
	if s := r.Take(3); s != "xyz" {
		t.Errorf("Take returned %q", s)
	}
	expectState(t, "Take", r, 11, 1, false)
	if s := r.Take(0); s != "" {
		t.Errorf("Take(0) returned %q", s)
	}
	expectState(t, "Take(0)", r, 11, 1, false)
	if n := r.Num(1); n != 5 {
		t.Errorf("Num returned %d", n)
	}
	expectState(t, "the last Num", r, 12, 0, false)
	if r.Num(0) != 0 || r.Take(0) != "" {
		t.Error("nothing was asked for, but something was returned")
	}
	expectState(t, "the end", r, 12, 0, false)
}

// P1.4: sizes are clamped to 0..8; fewer than eight bytes are unsigned, eight are a two's complement integer.
func TestNumDecodesEverySize(t *testing.T) {
	const input = "\xff\xfe\xfd\xfc\xfb\xfa\xf9\xf8\xf7\xf6"
	for _, x := range []struct{ size, want, at int }{
		{math.MinInt, 0, 0},
		{-1, 0, 0},
		{0, 0, 0},
		{1, 0xff, 1},
		{2, 0xfffe, 2},
		{3, 0xfffefd, 3},
		{4, 0xfffefdfc, 4},
		{5, 0xfffefdfcfb, 5},
		{6, 0xfffefdfcfbfa, 6},
		{7, 0xfffefdfcfbfaf9, 7},
		{8, -0x1020304050608, 8},
		{9, -0x1020304050608, 8},
		{10, -0x1020304050608, 8},
		{math.MaxInt, -0x1020304050608, 8},
	} {
		r := octet.Read(input)
		if n := r.Num(x.size); n != x.want {
			t.Errorf("Num(%d) returned %d, not %d", x.size, n, x.want)
		}
		expectState(t, "Num", r, x.at, len(input)-x.at, false)
	}
}

// P1.4: a truncated integer of fixed size.
func TestNumFailsIfBytesAreMissing(t *testing.T) {
	for size := 1; size <= 8; size++ {
		for length := range size {
			r := octet.Read("ab" + scrambled(length))
			r.Take(2)
			if n := r.Num(size); n != 0 {
				t.Errorf("Num(%d) of %d bytes returned %d", size, length, n)
			}
			expectFailed(t, "Num", r, 2, length)
		}
	}
	r := octet.Read("1234567")
	if n := r.Num(99); n != 0 {
		t.Errorf("Num(99) of 7 bytes returned %d", n)
	}
	expectFailed(t, "Num(99)", r, 0, 7)
}

// P1.4: redundant groups, more than 64 bits, and truncated encodings.
func TestVarFailsForOtherEncodings(t *testing.T) {
	nine := strings.Repeat("\xff", 9)
	for _, s := range []string{
		"",
		"\x80", "\xff", "\x80\x80", nine, strings.Repeat("\x80", 9),
		"\x80\x00", "\x81\x00", "\xff\x00", "\x80\x80\x00", "\xff\xff\x00", nine + "\x00",
		nine + "\x02", nine + "\x03", nine + "\x7f", strings.Repeat("\x80", 9) + "\x02",
		nine + "\x80", nine + "\x81", nine + "\xff", nine + "\x80\x00", nine + "\x81\x00", nine + "\x80\x01", strings.Repeat("\x80", 10) + "\x01",
		strings.Repeat("\x80", 100), strings.Repeat("\x80", 100) + "\x01",
	} {
		r := octet.Read(s)
		if n := r.Var(); n != 0 {
			t.Errorf("Var of %q returned %d", s, n)
		}
		expectFailed(t, "Var", r, 0, len(s))
		r = octet.Read("\x07" + s)
		r.Var()
		if n := r.Var(); n != 0 {
			t.Errorf("the second Var, of %q, returned %d", s, n)
		}
		expectFailed(t, "the second Var", r, 1, len(s))
	}
}

// P1.4: a length that is not an encoding, is negative, or exceeds what remains, leaves the position before the length.
func TestTextFailsForWrongLengths(t *testing.T) {
	for _, s := range []string{
		"", "\x80", "\x80\x00", "\x82\x00ab",
		"\x01", "\x05abcd", "\x80\x01" + strings.Repeat("x", 127),
		octet.Var(-1) + "ab", octet.Var(-2) + "ab", octet.Var(math.MinInt) + "ab", octet.Var(math.MaxInt) + "ab", octet.Var(math.MaxInt-9) + "ab", octet.Var(1<<32) + "ab",
	} {
		r := octet.Read(s)
		if got := r.Text(); got != "" {
			t.Errorf("Text of %q returned %q", s, got)
		}
		expectFailed(t, "Text", r, 0, len(s))
		r = octet.Read("\x01z" + s)
		r.Text()
		if got := r.Text(); got != "" {
			t.Errorf("the second Text, of %q, returned %q", s, got)
		}
		expectFailed(t, "the second Text", r, 2, len(s))
	}
}

// P1.4: negative numbers of bytes, and more bytes than there are.
func TestTakeFailsForWrongNumbers(t *testing.T) {
	for _, n := range []int{-1, -3, math.MinInt32, math.MinInt, 3, 4, 5, math.MaxInt32, math.MaxInt - 2, math.MaxInt} {
		r := octet.Read("abcd")
		r.Take(2)
		if s := r.Take(n); s != "" {
			t.Errorf("Take(%d) of 2 bytes returned %q", n, s)
		}
		expectFailed(t, "Take", r, 2, 2)
	}
	r := octet.Read("abcd")
	if s := r.Take(4); s != "abcd" {
		t.Errorf("Take(4) of 4 bytes returned %q", s)
	}
	expectState(t, "all bytes", r, 4, 0, false)
}

// P1.4: Take returns any bytes unchanged.
func TestTakeReturnsBytesUnchanged(t *testing.T) {
	s := scrambled(300) + "\x00\xff\xc3\x28"
	r := octet.Read(s)
	if r.Take(17) != s[:17] || r.Take(200) != s[17:217] || r.Take(87) != s[217:] {
		t.Error("Take changed the bytes")
	}
	expectState(t, "Take", r, len(s), 0, false)
}

// P1.4, R3: readers of the same string do not affect one another.
func TestReadersAreIndependent(t *testing.T) {
	const s = "\x02ab\x07"
	a, b := octet.Read(s), octet.Read(s)
	a.Take(99)
	if b.Text() != "ab" || b.Num(1) != 7 {
		t.Error("the failure of one reader affected another")
	}
	expectFailed(t, "the reader that failed", a, 0, 4)
	expectState(t, "the reader that did not fail", b, 4, 0, false)
}

// P1.5: a nil reader has failed.
func TestNilReaderHasFailed(t *testing.T) {
	var r *octet.Reader
	expectFailed(t, "the nil reader", r, 0, 0)
	if r.Num(-1) != 0 || r.Num(8) != 0 || r.Take(math.MaxInt) != "" {
		t.Error("the nil reader returned something")
	}
}

// P1.5: the zero value of Reader reads the empty string.
func TestZeroReaderReadsTheEmptyString(t *testing.T) {
	calls := map[string]func(r *octet.Reader) bool{
		"Num(1)":   func(r *octet.Reader) bool { return r.Num(1) == 0 },
		"Var":      func(r *octet.Reader) bool { return r.Var() == 0 },
		"Text":     func(r *octet.Reader) bool { return r.Text() == "" },
		"Take(1)":  func(r *octet.Reader) bool { return r.Take(1) == "" },
		"Take(-1)": func(r *octet.Reader) bool { return r.Take(-1) == "" },
	}
	for name, call := range calls {
		for _, r := range []*octet.Reader{{}, new(octet.Reader), octet.Read("")} {
			if r.Num(0) != 0 || r.Num(-1) != 0 || r.Take(0) != "" {
				t.Error("the empty string contains something")
			}
			expectState(t, "the empty string", r, 0, 0, false)
			if !call(r) {
				t.Errorf("%s of the empty string returned something", name)
			}
			expectFailed(t, name, r, 0, 0)
		}
	}
}

// P1.6: decoding returns what was encoded, one value after the other.
func TestDecodingReturnsWhatWasEncoded(t *testing.T) {
	integers, strs := someIntegers(), someStrings()
	var all strings.Builder
	for i, n := range integers {
		s := strs[i%len(strs)]
		all.WriteString(octet.Put(n, i%9) + octet.Var(n) + octet.Put(n, 8) + octet.Text(s) + s)
	}
	r := octet.Read(all.String())
	for i, n := range integers {
		s := strs[i%len(strs)]
		low := n
		if i%9 < 8 {
			low = n & (1<<(8*(i%9)) - 1)
		}
		if got := r.Num(i % 9); got != low {
			t.Errorf("Num(%d) of %d returned %d", i%9, n, got)
		}
		if got := r.Var(); got != n {
			t.Errorf("Var of %d returned %d", n, got)
		}
		if got := r.Num(8); got != n {
			t.Errorf("Num(8) of %d returned %d", n, got)
		}
		if r.Text() != s || r.Take(len(s)) != s {
			t.Errorf("a string of %d bytes was decoded differently", len(s))
		}
	}
	expectState(t, "the end", r, all.Len(), 0, false)
}

// expectCanonical reports an error if the reader accepts an encoding that Var or Text does not return.
func expectCanonical(t *testing.T, s string) {
	t.Helper()
	r := octet.Read(s)
	if n := r.Var(); !r.Failed() && octet.Var(n) != s[:r.At()] {
		t.Errorf("Var accepts %q for %d", s[:r.At()], n)
	}
	r = octet.Read(s)
	if text := r.Text(); !r.Failed() && octet.Text(text) != s[:r.At()] {
		t.Errorf("Text accepts %q for %q", s[:r.At()], text)
	}
}

// P1.6: no integer or string has a second encoding that is accepted.
func TestEveryValueHasOneEncoding(t *testing.T) {
	for n := range 65536 {
		expectCanonical(t, octet.Put(n, 2))
		expectCanonical(t, octet.Put(n, 2)+"\x00\x00\x00")
		expectCanonical(t, "\x80"+octet.Put(n, 2))
	}
	for length := range 12 {
		for _, filler := range []string{"\x80", "\x81", "\xff"} {
			for _, before := range []string{"", "\x00", "\x7f", "\x80", "\xff"} {
				for last := range 256 {
					expectCanonical(t, strings.Repeat(filler, length)+before+octet.Put(last, 1)+"abc")
				}
			}
		}
	}
}

// P1.6: every proper prefix of an encoding is rejected.
func TestPrefixesOfEncodingsAreRejected(t *testing.T) {
	for _, n := range someIntegers() {
		encoded := octet.Var(n)
		for length := range len(encoded) {
			r := octet.Read(encoded[:length])
			if r.Var() != 0 || !r.Failed() || r.At() != 0 {
				t.Errorf("Var accepts the first %d bytes of the encoding of %d", length, n)
			}
		}
	}
	for _, s := range []string{"a", "abc", scrambled(127), scrambled(128), scrambled(300)} {
		encoded := octet.Text(s)
		for length := range len(encoded) {
			r := octet.Read(encoded[:length])
			if r.Text() != "" || !r.Failed() || r.At() != 0 {
				t.Errorf("Text accepts the first %d bytes of the encoding of %d bytes", length, len(s))
			}
		}
	}
}

// P1: no call panics, whatever its input is.
func FuzzReaderTerminates(f *testing.F) {
	for _, s := range []string{"", "\x80\x00", "\x05abc", strings.Repeat("\xff", 12), "\x01a\x02bc\xac\x02"} {
		f.Add(s, "nvtk", 3)
	}
	f.Fuzz(func(t *testing.T, s, calls string, n int) {
		r := octet.Read(s)
		for _, call := range calls {
			switch call % 4 {
			case 0:
				r.Num(n)
			case 1:
				r.Var()
			case 2:
				r.Text()
			case 3:
				r.Take(n)
			}
			if r.At() < 0 || r.Left() < 0 || r.At()+r.Left() != len(s) {
				t.Fatalf("At %d, Left %d in a string of %d bytes", r.At(), r.Left(), len(s))
			}
		}
		expectCanonical(t, s)
	})
}
