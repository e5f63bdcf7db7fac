package coder_test

import (
	"slices"
	"strings"
	"testing"

	"gouache/api"
	"gouache/coder"
)

// expectReadBack reports bits that a reader does not read as they were written, with some bytes after those of the writer.
func expectReadBack(t *testing.T, bits []coded, after string) {
	t.Helper()
	whole := writerOf(bits).Bytes()
	r := coder.NewReader(whole + after)
	for n, b := range bits {
		if got := r.Bit(b.context); got != b.bit&1 {
			t.Fatalf("bit %d of %d is read as %d, with %x after the bytes of the writer", n, len(bits), got, after)
		}
		if used := r.Used(); used > len(whole) {
			t.Fatalf("after bit %d of %d, %d of %d bytes are used", n, len(bits), used, len(whole))
		}
	}
	if got := r.Used(); got != len(whole) {
		t.Errorf("after %d bits, %d bytes are used, not %d", len(bits), got, len(whole))
	}
}

// P11.5: a reader reads what was written, whatever follows, and has then used the bytes of the writer.
func TestReaderInvertsWriter(t *testing.T) {
	for i, bits := range manyBits() {
		for _, after := range []string{"", "\x00", "\xff", "\x00\x00\x00\x00\x00", "\xff\xff\xff\xff\xff", scatteredBytes(uint64(i), 20)} {
			expectReadBack(t, bits, after)
		}
	}
	// No bits at all, one, two and so on: low and high differ the most at the beginning.
	for _, bits := range [][]coded{repeated(40, 3, 1), repeated(40, 3, 0), scatteredBits(1, 300, 256, 50), straddling(256)} {
		for n := range bits {
			expectReadBack(t, bits[:n], "")
			expectReadBack(t, bits[:n], "\xff\xff\xff\xff")
		}
	}
}

// P11.5: also with contexts out of range, those of the reader being others with the same remainders, and with any bit arguments.
func TestReaderInvertsWriterWithAnyContexts(t *testing.T) {
	for seed := range uint64(50) {
		next := scatter(seed)
		bits := scatteredBits(seed, 500, 256, 30)
		w := coder.NewWriter()
		for _, b := range bits {
			w.Bit(b.context+256*(next(1<<20)-1<<19), b.bit+2*(next(1<<20)-1<<19))
		}
		r := coder.NewReader(w.Bytes() + scatteredBytes(seed, next(10)))
		for n, b := range bits {
			if got := r.Bit(b.context + 256*(next(1<<20)-1<<19)); got != b.bit {
				t.Fatalf("bit %d is read as %d", n, got)
			}
		}
		if r.Used() != len(w.Bytes()) {
			t.Errorf("%d bytes are used, not %d", r.Used(), len(w.Bytes()))
		}
	}
}

// P11.5: the output only grows: all bytes but the last four are final.
func TestAllBytesButTheLastFourAreFinal(t *testing.T) {
	for i, bits := range manyBits() {
		w := coder.NewWriter()
		final := ""
		for n, b := range bits {
			w.Bit(b.context, b.bit)
			whole := w.Bytes()
			if !strings.HasPrefix(whole[:len(whole)-4], final) {
				t.Fatalf("case %d: after %d bits the bytes %x begin otherwise than %x", i, n+1, whole, final)
			}
			final = whole[:len(whole)-4]
		}
	}
	// The same bits, and then others.
	for _, bits := range [][]coded{scatteredBits(1, 500, 3, 50), straddling(1), bitsOf("hello, world")} {
		whole := writerOf(bits).Bytes()
		for seed := range uint64(20) {
			longer := writerOf(append(slices.Clone(bits), scatteredBits(seed, 100, 256, 50)...)).Bytes()
			if len(longer) <= len(whole) || !strings.HasPrefix(longer, whole[:len(whole)-4]) {
				t.Errorf("the bytes %x are not continued by %x", whole, longer)
			}
		}
	}
}

// P11.5: the last four bytes are not final.
func TestTheLastFourBytesMayChange(t *testing.T) {
	changed := [4]bool{}
	for seed := range uint64(100) {
		bits := scatteredBits(seed, 100, 256, 50)
		before, after := writerOf(bits[:80]).Bytes(), writerOf(bits).Bytes()
		for i := range changed {
			at := len(before) - 4 + i
			changed[i] = changed[i] || before[at] != after[at]
		}
	}
	if changed != [4]bool{true, true, true, true} {
		t.Errorf("of the last four bytes these change: %v", changed)
	}
}

// P11.5: encodings of strings that begin equally begin equally, up to the last four bytes.
func TestEncodingsOfPrefixes(t *testing.T) {
	s := "hello, world" + strings.Repeat("\x00\xff", 20) + scatteredBytes(1, 100)
	whole := coder.Encode(s)
	for n := range len(s) {
		part := coder.Encode(s[:n])
		if !strings.HasPrefix(whole, part[:len(part)-4]) || len(part) > len(whole) {
			t.Errorf("the encoding of %d bytes, %x, does not begin that of all bytes, %x", n, part, whole)
		}
	}
}

// integersOf returns the bytes of a string as integers, small and large ones of both signs.
func integersOf(s string) []int {
	var all []int
	for i := range len(s) {
		n := int(s[i])
		switch i % 4 {
		case 1:
			n -= 128
		case 2:
			n = least + n
		case 3:
			n = greatest - n
		}
		all = append(all, n)
	}
	return all
}

// expectRules reports calls with arbitrary contexts, bits and bytes that return anything else than the chapter says, or something else when they are repeated (R4).
func expectRules(t *testing.T, contexts, s string, n int) {
	t.Helper()
	var bits []coded
	for i, context := range integersOf(contexts) {
		bit := i
		if len(s) > 0 {
			bit = integersOf(s)[i%len(s)]
		}
		bits = append(bits, coded{context, bit})
	}
	expectBytes(t, "any bits", writerOf(bits), written(bits))
	expectBytes(t, "any bits again", writerOf(bits), written(bits))
	expectReadBack(t, bits, s)
	expectReader(t, s, integersOf(contexts))
	if got, want := coder.Encode(s), encoded(s); got != want || coder.Encode(s) != want {
		t.Errorf("the encoding of %x is %x, not %x", s, got, want)
	}
	expectDecode(t, s, n)
	expectDecode(t, s, reduced(n))
	expectDecoded(t, coder.Encode(s), len(s), s, api.OK)
	expectDecode(t, coder.Encode(s), n)
}

// P1, R2, R4, R5: all calls with arbitrary integers and bytes.
func FuzzCoderFollowsItsRules(f *testing.F) {
	f.Add("", "", 0)
	f.Add("\x00", "\x00\x00\x00\x00", 0)
	f.Add(allBytes(), "\x7f\xff\xf8\x01", 1)
	f.Add(scatteredBytes(1, 500), "\xff\xff\xff", -1)
	f.Add(strings.Repeat("\x00", 300), scatteredBytes(2, 100), 100)
	f.Add(strings.Repeat("ab", 300), "\x00\x00\x00\x00\x00", 1)
	f.Add("hello", "\x9d\xff\xf0\x05", 1)
	f.Add("world", "\x9d\xff\xf0\x05\x00", 65537)
	f.Add("\xff\x80", strings.Repeat("\x00", 24), 41)
	f.Add("\x80\xff", "a", least)
	f.Add("\x01\x02", "\x80", greatest)
	f.Fuzz(func(t *testing.T, contexts, s string, n int) {
		if len(contexts) > 1<<12 || len(s) > 1<<12 {
			t.Skip("too long to be looked at many times")
		}
		expectRules(t, contexts, s, n)
	})
}

// P1, R5: strings of many lengths with contexts and numbers of all kinds.
func TestArbitraryArguments(t *testing.T) {
	for length := range 60 {
		for seed := range uint64(5) {
			expectRules(t, scatteredBytes(seed, 3*length), scatteredBytes(seed+100, length), length-2)
		}
	}
	for i, n := range []int{-1, 65537, least, least + 1, greatest, greatest - 1, -1 << 32, 1 << 32, 1<<32 + 1} {
		expectRules(t, scatteredBytes(uint64(i), 200), scatteredBytes(uint64(i), i), n)
	}
}
