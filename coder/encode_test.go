package coder_test

import (
	"strings"
	"testing"

	"gouache/coder"
)

// P11.3: the example of the chapter, and other strings in numbers.
func TestEncode(t *testing.T) {
	for s, want := range map[string]string{
		"":                      "\x00\x00\x00\x00",
		"a":                     "\x9d\xff\xf0\x05",
		"\x00":                  "\xfe\xff\xf8\x08",
		"\xff":                  "\x00\x00\x00\x00\x00",
		"ab":                    "\x9e\x9b\x62\xe0\xc4",
		"hello, world":          "\x97\x99\x0b\x18\x74\x45\x8c\xe6\x04\x16\xf3\xa4\x4d\x84\xc1",
		"\x00\x00\x00\x00\x00":  "\xff\xff\xff\xff\xf5\xd1\xf9\xb5",
		"\xff\xff\xff\xff\xff":  strings.Repeat("\x00", 8),
		strings.Repeat("a", 20): "\x9e\x9d\x55\x24\x03\x63\x0d\xc9\x45\x6c\xa1\x0a\xe3\xa6\x99\x72\x1e",
	} {
		if got := coder.Encode(s); got != want {
			t.Errorf("the encoding of %q is %x, not %x", s, got, want)
		}
	}
	if got := len(coder.Encode(allBytes())); got != 226 {
		t.Errorf("the encoding of the 256 bytes has %d bytes", got)
	}
	if got := coder.Encode(strings.Repeat("\xff", 1000)); got != strings.Repeat("\x00", 40) {
		t.Errorf("the encoding of 1000 bytes of 255 is %x", got)
	}
}

// P11.3: each byte by itself, and after another one.
func TestEncodeOfEachByte(t *testing.T) {
	for b := range 256 {
		for _, before := range []string{"", "\x00", "a", "\xff\xfe"} {
			s := before + string([]byte{byte(b)})
			if got, want := coder.Encode(s), encoded(s); got != want {
				t.Errorf("the encoding of %x is %x, not %x", s, got, want)
			}
		}
	}
}

// P11.3: strings of all kinds, against the definition.
func TestEncodeOfManyStrings(t *testing.T) {
	for _, s := range append(manyStrings(), scatteredBytes(1, 1<<17), strings.Repeat("ab", 1<<18)) {
		if got := coder.Encode(s); got != encoded(s) {
			t.Errorf("the encoding of %.20q, %d bytes, is another one", s, len(s))
		}
	}
	for seed := range uint64(500) {
		next := scatter(seed)
		s := scatteredBytes(seed, next(40))
		if got := coder.Encode(s); got != encoded(s) {
			t.Errorf("the encoding of %x is %x, not %x", s, got, encoded(s))
		}
	}
}

// P11.3: Encode returns the bytes of a writer that is given eight bits of each byte, most significant bit first; the contexts are the nodes of a tree.
func TestEncodeIsWhatAWriterWrites(t *testing.T) {
	w := coder.NewWriter()
	// The bits of 'a', which is 97, and of 255.
	for _, b := range []coded{{1, 0}, {2, 1}, {5, 1}, {11, 0}, {22, 0}, {44, 0}, {88, 0}, {176, 1}, {1, 1}, {3, 1}, {7, 1}, {15, 1}, {31, 1}, {63, 1}, {127, 1}, {255, 1}} {
		w.Bit(b.context, b.bit)
	}
	expectBytes(t, "the bits of two bytes", w, coder.Encode("a\xff"))
	for _, s := range manyStrings() {
		expectBytes(t, "the bits of a string", writerOf(bitsOf(s)), coder.Encode(s))
	}
}

// R3, R4: Encode returns the same string each time, whatever is encoded in between.
func TestEncodeKeepsNothing(t *testing.T) {
	strs := manyStrings()
	var first []string
	for _, s := range strs {
		first = append(first, coder.Encode(s))
	}
	for i, s := range strs {
		if got := coder.Encode(s); got != first[i] {
			t.Errorf("the encoding of %.20q is %x, and then %x", s, first[i], got)
		}
	}
}
