package coder_test

import (
	"slices"
	"strings"
	"testing"

	"gouache/coder"
)

// bitsRead returns the bits of a reader in these contexts.
func bitsRead(r *coder.Reader, contexts []int) []int {
	var bits []int
	for _, context := range contexts {
		bits = append(bits, r.Bit(context))
	}
	return bits
}

// expectReader reports a reader that returns other bits than the definition, or has used another number of bytes, after any bit.
func expectReader(t *testing.T, s string, contexts []int) {
	t.Helper()
	r := coder.NewReader(s)
	got := bitsRead(r, contexts)
	want, used := readBits(s, contexts)
	if !slices.Equal(got, want) {
		t.Fatalf("the bits of %x are %v, not %v", s, got, want)
	}
	if r.Used() != used {
		t.Fatalf("%d bytes of %x are used after %d bits, not %d", r.Used(), s, len(contexts), used)
	}
}

// someInputs returns strings that are not, or not only, the bytes of a writer.
func someInputs() []string {
	inputs := []string{"", "\x00", "\xff", "\x80", "\x7f\xff", "\x80\x00", "\xff\xff", "\x7f\xff\xf8", "\x80\x00\x00", "\xff\xff\xff", "\x00\x00\x00\x00", "\xff\xff\xff\xff", "\x7f\xff\xf8\x00", "\x7f\xff\xf8\x01", "\x7f\xff\xff\xff", "\x80\x00\x00\x00"}
	for _, n := range []int{5, 8, 100, 1000} {
		inputs = append(inputs, strings.Repeat("\x00", n), strings.Repeat("\xff", n), scatteredBytes(uint64(n), n))
	}
	return inputs
}

// someContexts returns sequences of contexts: one of them, a few, and all of them.
func someContexts(n int) [][]int {
	all := [][]int{make([]int, n)}
	for _, contexts := range []int{3, 256} {
		all = append(all, contextsOf(scatteredBits(uint64(contexts), n, contexts, 0)))
	}
	return all
}

// P11.2: a new reader has read four bytes, whether the string has them or not.
func TestNewReader(t *testing.T) {
	for _, s := range someInputs() {
		if got := coder.NewReader(s).Used(); got != 4 {
			t.Errorf("a new reader of %x has used %d bytes", s, got)
		}
	}
}

// P11.2: the first bit is 1 up to the code 0x7ffff800, and 0 after it, whatever the context is; bytes after the fourth do not matter, and those that are missing are zero.
func TestFirstBitRead(t *testing.T) {
	for _, x := range []struct {
		s    string
		want int
	}{
		{"\x7f\xff\xf8\x00", 1}, {"\x7f\xff\xf8\x01", 0}, {"\x7f\xff\xf7\xff", 1}, {"\x00\x00\x00\x00", 1}, {"\xff\xff\xff\xff", 0}, {"\x80\x00\x00\x00", 0},
		{"\x7f\xff\xf8\x00\xff", 1}, {"\x7f\xff\xf8\x01\x00", 0}, {"\x01\x80\xff\xff", 1}, {"\x80\x01\x00\x00", 0},
		{"", 1}, {"\x00", 1}, {"\x7f", 1}, {"\x80", 0}, {"\xff", 0}, {"\x7f\xff", 1}, {"\x80\x00", 0}, {"\x7f\xff\xf8", 1}, {"\x7f\xff\xf9", 0}, {"\x00\xff", 1}, {"\x00\x00\xff", 1},
	} {
		for _, context := range []int{0, 1, 255, -1, 256} {
			r := coder.NewReader(x.s)
			if got := r.Bit(context); got != x.want || r.Used() != 4 {
				t.Errorf("the first bit of %x is %d, after %d bytes", x.s, got, r.Used())
			}
		}
	}
}

// P11.2: the second bit, in the same context and in another one, on both sides of what the middle is then.
func TestSecondBitRead(t *testing.T) {
	for _, x := range []struct {
		s                        string
		first, second, elsewhere int
	}{
		{"\x3f\xff\xf8\x00", 1, 1, 1}, {"\x3f\xff\xf8\x01", 1, 1, 0}, {"\x41\xff\xf7\xc0", 1, 1, 0}, {"\x41\xff\xf7\xc1", 1, 0, 0},
		{"\xbd\xff\xf8\x01", 0, 1, 1}, {"\xbd\xff\xf8\x02", 0, 0, 1}, {"\xbf\xff\xf8\x01", 0, 0, 1}, {"\xbf\xff\xf8\x02", 0, 0, 0},
	} {
		if got := bitsRead(coder.NewReader(x.s), []int{4, 4}); !slices.Equal(got, []int{x.first, x.second}) {
			t.Errorf("the bits of %x in one context are %v", x.s, got)
		}
		if got := bitsRead(coder.NewReader(x.s), []int{4, 5}); !slices.Equal(got, []int{x.first, x.elsewhere}) {
			t.Errorf("the bits of %x in two contexts are %v", x.s, got)
		}
	}
}

// P11.2: any bytes in any contexts, against the definition; far beyond the end of the string, where bytes are zero and count as used.
func TestReaderOfAnyBytes(t *testing.T) {
	for _, s := range someInputs() {
		for _, contexts := range someContexts(2000) {
			expectReader(t, s, contexts)
		}
	}
	for seed := range uint64(300) {
		next := scatter(seed)
		expectReader(t, scatteredBytes(seed, next(30)), contextsOf(scatteredBits(seed, 400, 1+next(256), 0)))
	}
}

// P11.2: Used and the bits after each bit, not only at the end.
func TestUsedAfterEachBit(t *testing.T) {
	for _, s := range []string{"", "\xff\xff", scatteredBytes(3, 9), scatteredBytes(4, 200)} {
		for _, contexts := range someContexts(400) {
			r := coder.NewReader(s)
			for n := range contexts {
				bit := r.Bit(contexts[n])
				bits, used := readBits(s, contexts[:n+1])
				if bit != bits[n] || r.Used() != used {
					t.Fatalf("bit %d of %x is %d after %d bytes, not %d after %d", n, s, bit, r.Used(), bits[n], used)
				}
			}
		}
	}
}

// P11.2: bytes that are missing are zero: zeros at the end of a string make no difference, for the bits and for Used.
func TestReaderPastTheEnd(t *testing.T) {
	beyond := 0
	for _, s := range someInputs() {
		for _, contexts := range someContexts(1000) {
			r, padded := coder.NewReader(s), coder.NewReader(s+strings.Repeat("\x00", 2000))
			for n, context := range contexts {
				if r.Bit(context) != padded.Bit(context) || r.Used() != padded.Used() {
					t.Fatalf("with zeros, bit %d of %x is another one", n, s)
				}
			}
			if r.Used() > len(s)+4 {
				beyond++
			}
		}
	}
	if beyond < 10 {
		t.Errorf("only %d of the readers have used four bytes after the end of their string", beyond)
	}
	// In unused contexts, every eighth bit 1 removes a byte.
	r := coder.NewReader("")
	for n := range 240 {
		if bit, want := r.Bit(n), 4+(n+1)/8; bit != 1 || r.Used() != want {
			t.Errorf("bit %d of nothing is %d, after %d bytes and not %d", n, bit, r.Used(), want)
		}
	}
}

// P11.2: several bytes are read after one bit; the code is 2^31 - 1 or 2^31 in an interval of a few codes around it.
func TestReaderShiftsSeveralTimes(t *testing.T) {
	for _, x := range []struct {
		bits      []coded
		code      string
		bit, used int
	}{
		{straddling(1), "\x7f\xff\xff\xff", 1, 8},
		{straddling(256), "\x7f\xff\xff\xff", 1, 8},
		{straddling(1), "\x80\x00\x00\x00", 0, 6},
		{straddling(256), "\x80\x00\x00\x00", 0, 7},
		{straddling(256), "\x80\x00\x00\x01", 0, 7},
	} {
		for _, after := range []string{"", "\xff\xff\xff\xff", "\x00\xff", scatteredBytes(1, 100)} {
			r := coder.NewReader(x.code + after)
			for n, b := range x.bits {
				if got := r.Bit(b.context); got != b.bit || r.Used() != 4 {
					t.Fatalf("bit %d of %x is %d, not %d, after %d bytes", n, x.code, got, b.bit, r.Used())
				}
			}
			if got := r.Bit(0); got != x.bit || r.Used() != x.used {
				t.Errorf("the last bit of %x is %d, not %d, after %d bytes, not %d", x.code, got, x.bit, r.Used(), x.used)
			}
			contexts := append(append(contextsOf(x.bits), 0), contextsOf(scatteredBits(5, 500, 256, 0))...)
			expectReader(t, x.code+after, contexts)
		}
	}
}

// P11.2: contexts are reduced modulo 256, also negative ones.
func TestContextsOfReader(t *testing.T) {
	for context, want := range manyContexts() {
		for _, s := range someInputs() {
			r, same := coder.NewReader(s), coder.NewReader(s)
			for n := range 20 {
				given := context
				if n%3 == 1 {
					given = want
				}
				if r.Bit(given) != same.Bit(want) || r.Bit(want+1) != same.Bit(reduced(want+1)) || r.Used() != same.Used() {
					t.Fatalf("context %d: bit %d of %x is not that of context %d", context, n, s, want)
				}
			}
			expectReader(t, s, []int{context, want, context, want, 0, context, -1, context})
		}
	}
}

// P11.2: Used changes nothing.
func TestUsedChangesNothing(t *testing.T) {
	s := scatteredBytes(8, 100)
	r, asked := coder.NewReader(s), coder.NewReader(s)
	for n := range 1500 {
		if asked.Used() != asked.Used() || asked.Used() != r.Used() || asked.Bit(n%5) != r.Bit(n%5) {
			t.Fatalf("bit %d is another one when Used is called", n)
		}
	}
}

// P11.2: a nil reader returns 0.
func TestNilReader(t *testing.T) {
	var r *coder.Reader
	for range 3 {
		for context := range manyContexts() {
			if bit, used := r.Bit(context), r.Used(); bit != 0 || used != 0 {
				t.Errorf("a nil reader returns %d in context %d, and has used %d bytes", bit, context, used)
			}
		}
	}
}

// P11.2: the zero value is like a new reader of the empty string.
func TestZeroReader(t *testing.T) {
	for _, contexts := range append(someContexts(1000), straddlingContexts()) {
		var zero coder.Reader
		other, same := new(coder.Reader), coder.NewReader("")
		if zero.Used() != 4 || other.Used() != 4 {
			t.Errorf("zero values have used %d and %d bytes", zero.Used(), other.Used())
		}
		for n, context := range contexts {
			want := same.Bit(context)
			if zero.Bit(context) != want || other.Bit(context) != want || zero.Used() != same.Used() || other.Used() != same.Used() {
				t.Fatalf("bit %d of zero values is another one than %d", n, want)
			}
		}
		if _, used := readBits("", contexts); zero.Used() != used {
			t.Errorf("a zero value has used %d bytes, not %d", zero.Used(), used)
		}
	}
}

// straddlingContexts returns the contexts of bits that do not remove bytes.
func straddlingContexts() []int {
	return contextsOf(straddling(256))
}

// R3, R4: readers of the same string do not affect one another.
func TestReadersAreIndependent(t *testing.T) {
	s := scatteredBytes(2, 300)
	contexts := contextsOf(scatteredBits(1, 1000, 6, 0))
	r, other := coder.NewReader(s), coder.NewReader(s)
	for n := range contexts {
		r.Bit(contexts[n])
		if n%3 == 0 {
			other.Bit(contexts[n/3])
		}
	}
	_, used := readBits(s, contexts)
	_, usedByOther := readBits(s, contexts[:(len(contexts)+2)/3])
	if r.Used() != used || other.Used() != usedByOther {
		t.Errorf("the readers have used %d and %d bytes, not %d and %d", r.Used(), other.Used(), used, usedByOther)
	}
}
