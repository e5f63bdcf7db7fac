package coder_test

import (
	"math/big"
	"slices"
	"testing"

	"gouache/coder"
)

// expectBytes reports a writer whose bytes are others.
func expectBytes(t *testing.T, what string, w *coder.Writer, want string) {
	t.Helper()
	if got := w.Bytes(); got != want {
		t.Errorf("%s: the bytes are %x, not %x", what, got, want)
	}
}

// manyContexts returns integers with what they are modulo 256.
func manyContexts() map[int]int {
	return map[int]int{
		0: 0, 1: 1, 127: 127, 128: 128, 254: 254, 255: 255,
		256: 0, 257: 1, 300: 44, 511: 255, 512: 0, 65535: 255, 65536: 0, 1<<31 + 5: 5, 1<<32 - 1: 255, 1 << 32: 0, 1<<32 + 200: 200,
		-1: 255, -2: 254, -128: 128, -255: 1, -256: 0, -257: 255, -300: 212, -65536: 0, -65537: 255, -1 << 31: 0, -1<<32 - 7: 249,
		least: 0, least + 1: 1, least + 130: 130, greatest: 255, greatest - 1: 254,
	}
}

// manyBitArguments returns integers with their lowest bit.
func manyBitArguments() map[int]int {
	return map[int]int{
		0: 0, 1: 1, 2: 0, 3: 1, 4: 0, 5: 1, 254: 0, 255: 1, 256: 0, 257: 1, 1 << 32: 0, 1<<32 + 1: 1, 1 << 62: 0,
		-1: 1, -2: 0, -3: 1, -4: 0, -255: 1, -256: 0, -1 << 32: 0, -1<<32 - 1: 1,
		least: 0, least + 1: 1, greatest: 1, greatest - 1: 0,
	}
}

// P11.1: a new writer has no output, and low is 0.
func TestNewWriter(t *testing.T) {
	expectBytes(t, "a new writer", coder.NewWriter(), "\x00\x00\x00\x00")
}

// P11.1: the examples of the chapter and further bits in numbers. A bit 1 lowers the upper bound, which is not to be seen until a bit 0 follows.
func TestFirstBits(t *testing.T) {
	for _, x := range []struct {
		bits []coded
		want string
	}{
		{[]coded{{0, 1}}, "\x00\x00\x00\x00"},
		{[]coded{{0, 0}}, "\x7f\xff\xf8\x01"},
		// The first bit leaves 0 to 0x7ffff800, and the probability 2112: 0x7ffff * 2112 is 0x41fff7c0.
		{[]coded{{0, 1}, {0, 0}}, "\x41\xff\xf7\xc1"},
		// In another context the probability is still 2048.
		{[]coded{{0, 1}, {1, 0}}, "\x3f\xff\xf8\x01"},
		// The first bit leaves 0x7ffff801 to 0xffffffff, and the probability 1984: 0x80000 * 1984 is 0x3e000000.
		{[]coded{{0, 0}, {0, 0}}, "\xbd\xff\xf8\x02"},
		{[]coded{{0, 0}, {1, 0}}, "\xbf\xff\xf8\x02"},
		{[]coded{{0, 0}, {0, 1}}, "\x7f\xff\xf8\x01"},
		{bitsOf("a"), "\x9d\xff\xf0\x05"},
		{bitsOf("\x00"), "\xfe\xff\xf8\x08"},
		// The eighth bit leaves less than 2^24 codes, all below 2^24.
		{repeated(7, 3, 1), "\x00\x00\x00\x00"},
		{bitsOf("\xff"), "\x00\x00\x00\x00\x00"},
	} {
		expectBytes(t, "some bits", writerOf(x.bits), x.want)
	}
}

// P11.1: the order of the bits, the contexts and the interval, against the definition, after each bit.
func TestManyBits(t *testing.T) {
	for i, bits := range manyBits() {
		d, w := newDefinition(), coder.NewWriter()
		var output []byte
		for n, b := range bits {
			w.Bit(b.context, b.bit)
			output = append(output, d.take(b.context, b.bit)...)
			if n%7 == 0 || n > len(bits)-50 {
				if got, want := w.Bytes(), string(output)+string(bytesOf(d.low)); got != want {
					t.Fatalf("case %d: after %d bits the bytes are %x, not %x", i, n+1, got, want)
				}
			}
		}
		expectBytes(t, "the end", w, written(bits))
	}
}

// P11.1: each context has a probability of its own.
func TestContextsAreIndependent(t *testing.T) {
	for trained := range 256 {
		for _, asked := range []int{0, 1, 127, 128, 129, 255, trained, reduced(trained + 1), reduced(trained + 128)} {
			bits := append(repeated(3, trained, 1), coded{asked, 0})
			expectBytes(t, "a trained context", writerOf(bits), written(bits))
			want := 2048
			if asked == trained {
				want = 2234
			}
			if got := seenProbability(t, repeated(3, trained, 1), asked); got != want {
				t.Errorf("after three bits 1 in context %d the probability in context %d is %d, not %d", trained, asked, got, want)
			}
		}
	}
}

// P11.1: contexts are reduced modulo 256, also negative ones.
func TestContextsOfWriter(t *testing.T) {
	for context, want := range manyContexts() {
		for _, bit := range []int{0, 1} {
			bits, same := []coded{{context, bit}, {want, bit}, {context, 1 - bit}, {want + 1, 0}, {want, 0}}, []coded{{want, bit}, {want, bit}, {want, 1 - bit}, {reduced(want + 1), 0}, {want, 0}}
			expectBytes(t, "reduced contexts", writerOf(same), written(same))
			if got, want := writerOf(bits).Bytes(), writerOf(same).Bytes(); got != want {
				t.Errorf("context %d: the bytes are %x, not %x", context, got, want)
			}
		}
	}
}

// P11.1: of a bit argument only the lowest bit counts, for the interval and for the model.
func TestBitArguments(t *testing.T) {
	for bit, want := range manyBitArguments() {
		for _, context := range []int{0, 200} {
			got := writerOf([]coded{{context, bit}, {context, bit}, {context, 0}})
			expectBytes(t, "lowest bits", got, written([]coded{{context, want}, {context, want}, {context, 0}}))
		}
	}
	w, same := coder.NewWriter(), coder.NewWriter()
	next := scatter(1)
	for range 2000 {
		context, bit := next(5), next(2)
		w.Bit(context, bit+2*(next(1000)-500))
		same.Bit(context, bit)
	}
	expectBytes(t, "many lowest bits", w, same.Bytes())
}

// seenProbability returns the probability in a context after some bits, as far as the bytes of writers show it: a bit 0 raises low by the range times the probability, and by one more. In a context that has not been used, the probability is 2048.
func seenProbability(t *testing.T, bits []coded, context int) int {
	t.Helper()
	unused := (context + 1) % 256
	for slices.Contains(contextsOf(bits), unused) {
		unused = (unused + 1) % 256
	}
	before := writerOf(bits).Bytes()
	raise := func(context int) *big.Int {
		w := writerOf(bits)
		w.Bit(context, 0)
		after := w.Bytes()
		shifted := uint(len(after) - len(before))
		low := new(big.Int).SetBytes([]byte(before))
		low.Add(low, big.NewInt(1)).Lsh(low, 8*shifted)
		raised := new(big.Int).SetBytes([]byte(after))
		raised.Sub(raised, low)
		rest := new(big.Int)
		raised.DivMod(raised, new(big.Int).Lsh(big.NewInt(1), 8*shifted), rest)
		if rest.Sign() != 0 {
			t.Fatalf("the bytes %x do not continue %x", after, before)
		}
		return raised
	}
	part, half := raise(context), raise(unused)
	if half.Sign() == 0 {
		t.Fatalf("the interval after %d bits is too small to see a probability", len(bits))
	}
	part.Mul(part, big.NewInt(2048))
	rest := new(big.Int)
	part.DivMod(part, half, rest)
	if rest.Sign() != 0 {
		t.Fatalf("the probability after %d bits is not an integer", len(bits))
	}
	return int(part.Int64())
}

// P11.1: the probabilities after bits 1 in one context, and after bits 0, as the bytes show them; the divisions by 32 are rounded down, so that no bit is ever certain.
func TestProbabilities(t *testing.T) {
	for _, x := range []struct{ n, ones, zeros int }{
		{0, 2048, 2048}, {1, 2112, 1984}, {2, 2174, 1922}, {3, 2234, 1862}, {4, 2292, 1804}, {5, 2348, 1748}, {6, 2402, 1694}, {7, 2454, 1642}, {8, 2505, 1591}, {9, 2554, 1542}, {10, 2602, 1494}, {11, 2648, 1448},
		{148, 4064, 32}, {149, 4065, 31}, {150, 4065, 31}, {151, 4065, 31}, {400, 4065, 31}, {5000, 4065, 31},
	} {
		for _, context := range []int{0, 1, 128, 255} {
			if got := seenProbability(t, repeated(x.n, context, 1), context); got != x.ones {
				t.Errorf("after %d bits 1 in context %d the probability is %d, not %d", x.n, context, got, x.ones)
			}
			if got := seenProbability(t, repeated(x.n, context, 0), context); got != x.zeros {
				t.Errorf("after %d bits 0 in context %d the probability is %d, not %d", x.n, context, got, x.zeros)
			}
		}
	}
	up, down := 2048, 2048
	for n := range 200 {
		if got := seenProbability(t, repeated(n, 5, 1), 5); got != up {
			t.Errorf("after %d bits 1 the probability is %d, not %d", n, got, up)
		}
		if got := seenProbability(t, repeated(n, 5, 0), 5); got != down {
			t.Errorf("after %d bits 0 the probability is %d, not %d", n, got, down)
		}
		up += (4096 - up) / 32
		down -= down / 32
	}
}

// P11.1: from the greatest probability down to the least one, and up again.
func TestProbabilitiesTurn(t *testing.T) {
	for _, bit := range []int{0, 1} {
		bits := append(append(repeated(500, 3, bit), repeated(500, 3, 1-bit)...), repeated(500, 3, bit)...)
		expectBytes(t, "turning", writerOf(bits), written(bits))
		for _, n := range []int{501, 502, 520, 700, 1000, 1001, 1002, 1020} {
			d := newDefinition()
			for _, b := range bits[:n] {
				d.take(b.context, b.bit)
			}
			if got := seenProbability(t, bits[:n], 3); got != d.probabilities[3] {
				t.Errorf("after %d bits the probability is %d, not %d", n, got, d.probabilities[3])
			}
		}
	}
}

// P11.1: one bit removes several bytes, where 2^31 is the middle of a small interval: low is 0x7fffffff, high is 0x8000047a in one context, and 0x80000001 in all contexts in turn.
func TestSeveralShifts(t *testing.T) {
	one, all := straddling(1), straddling(256)
	for _, x := range []struct {
		bits []coded
		bit  int
		want string
	}{
		// Low and high become equal, so that all four bytes are removed, and the interval has all codes again.
		{one, 1, "\x7f\xff\xff\xff\x00\x00\x00\x00"},
		{all, 1, "\x7f\xff\xff\xff\x00\x00\x00\x00"},
		// 0x80000000 to 0x8000047a.
		{one, 0, "\x80\x00\x00\x00\x00\x00"},
		// 0x80000000 and 0x80000001.
		{all, 0, "\x80\x00\x00\x00\x00\x00\x00"},
	} {
		w := writerOf(x.bits)
		expectBytes(t, "before the shifts", w, "\x7f\xff\xff\xff")
		w.Bit(0, x.bit)
		expectBytes(t, "after the shifts", w, x.want)
		w.Bit(33, 1)
		w.Bit(33, 0)
		expectBytes(t, "two bits later", w, written(append(x.bits, coded{0, x.bit}, coded{33, 1}, coded{33, 0})))
	}
	// The interval has all codes again: the next bit 0 in an unused context is like the first one.
	w := writerOf(append(one, coded{0, 1}, coded{9, 0}))
	expectBytes(t, "all codes again", w, "\x7f\xff\xff\xff\x7f\xff\xf8\x01")
}

// P11.1: a shift drops the byte that is removed (modulo 2^32), and fills low with zeros and high with ones. A bit 0 in a new context shows both of them: it raises low to the middle.
func TestShiftsWrapAround(t *testing.T) {
	for _, x := range []struct{ bits, want string }{
		// The last bit 1 leaves 0 to 0x00fff800, which a shift makes 0 to 0xfff800ff.
		{"11111111", "\x00\x00\x00\x00\x00"},
		{"111111110", "\x00\x7f\xfc\x00\x01"},
		{"1111111111111111", "\x00\x00\x00\x00\x00\x00"},
		{"11111111111111110", "\x00\x00\x7f\xfc\x00\x01"},
		// The last bit 0 leaves 0x807ff802 to 0x80fff801, which a shift makes 0x7ff80200 to 0xfff801ff.
		{"011111110", "\x80\x7f\xf8\x02\x00"},
		{"0111111100", "\x80\xbf\xf7\xfa\x01"},
		{"0111111101", "\x80\x7f\xf8\x02\x00"},
		{"01111111010", "\x80\x9f\xf7\xfa\x01"},
		// The ninth bit 0 leaves 0xff7ff809 to 0xffffffff, which a shift makes 0x7ff80900 to 0xffffffff.
		{"00000000", "\xfe\xff\xf8\x08"},
		{"000000000", "\xff\x7f\xf8\x09\x00"},
		{"00000000010", "\xff\x9f\xfa\x01\x01"},
	} {
		w := coder.NewWriter()
		for context, digit := range x.bits {
			w.Bit(context, int(digit-'0'))
		}
		expectBytes(t, "bits "+x.bits, w, x.want)
	}
}

// P11.1: Bytes does not change the writer, called twice, or between all bits.
func TestBytesChangesNothing(t *testing.T) {
	for i, bits := range manyBits() {
		bits = bits[:min(len(bits), 300)]
		asked := coder.NewWriter()
		for n, b := range bits {
			first := asked.Bytes()
			if second := asked.Bytes(); first != second {
				t.Fatalf("case %d: after %d bits the bytes are %x, and then %x", i, n, first, second)
			}
			asked.Bit(b.context, b.bit)
		}
		expectBytes(t, "asked between all bits", asked, writerOf(bits).Bytes())
	}
}

// P11.1: a nil writer ignores bits, and its bytes are the empty string.
func TestNilWriter(t *testing.T) {
	var w *coder.Writer
	for range 3 {
		for context := range manyContexts() {
			w.Bit(context, context)
			expectBytes(t, "nil", w, "")
		}
	}
}

// P11.1: the zero value is like a new writer.
func TestZeroWriter(t *testing.T) {
	for i, bits := range manyBits() {
		var zero coder.Writer
		other := new(coder.Writer)
		expectBytes(t, "a zero value", &zero, "\x00\x00\x00\x00")
		for _, b := range bits {
			zero.Bit(b.context, b.bit)
			other.Bit(b.context, b.bit)
		}
		if want := written(bits); zero.Bytes() != want || other.Bytes() != want {
			t.Errorf("case %d: the bytes of zero values are %x and %x, not %x", i, zero.Bytes(), other.Bytes(), want)
		}
	}
}

// R3, R4: writers do not affect one another.
func TestWritersAreIndependent(t *testing.T) {
	bits, others := scatteredBits(1, 1000, 4, 30), scatteredBits(2, 1000, 4, 80)
	w, other := coder.NewWriter(), coder.NewWriter()
	for i := range bits {
		w.Bit(bits[i].context, bits[i].bit)
		other.Bit(others[i].context, others[i].bit)
	}
	expectBytes(t, "the first writer", w, written(bits))
	expectBytes(t, "the second writer", other, written(others))
}
