package digest_test

import (
	"encoding/hex"
	"strings"
	"testing"

	"gouache/api"
	"gouache/digest"
)

// someDigests returns valid digests, which contain every byte at every position.
func someDigests() []api.Digest {
	digests := []api.Digest{digest.Of(""), digest.Of("abc"), digest.Join("a", "b")}
	for first := range 256 {
		bytes := make([]byte, 32)
		for i := range bytes {
			bytes[i] = byte(first + 7*i)
		}
		digests = append(digests, api.Digest(bytes), api.Digest(strings.Repeat(string(bytes[:1]), 32)))
	}
	return digests
}

// invalidDigests returns values that do not have 32 bytes.
func invalidDigests() []api.Digest {
	var digests []api.Digest
	for length := range 130 {
		if length != 32 {
			digests = append(digests, api.Digest(scrambled(length)), api.Digest(strings.Repeat("a", length)))
		}
	}
	// 32 characters, but more bytes.
	return append(digests, api.Digest(strings.Repeat("\u00e9", 32)))
}

// expectFormError reports an error if Parse accepts s or returns a digest together with its error.
func expectFormError(t *testing.T, s string) {
	t.Helper()
	if d, err := digest.Parse(s); d != "" || err != api.ErrForm {
		t.Errorf("Parse(%q) returned %q and %v", s, d, err)
	}
}

// P2.3: the high half of each byte comes first, and the digits are lower-case.
func TestHexReturnsLowerCaseDigits(t *testing.T) {
	for _, x := range []struct{ d, want string }{
		{strings.Repeat("\x00", 32), strings.Repeat("0", 64)},
		{strings.Repeat("\xff", 32), strings.Repeat("f", 64)},
		{strings.Repeat("\x0f\xa0", 16), strings.Repeat("0fa0", 16)},
		{"\x01\x23\x45\x67\x89\xab\xcd\xef" + strings.Repeat("\x00", 23) + "\x10", "0123456789abcdef" + strings.Repeat("0", 46) + "10"},
	} {
		if got := digest.Hex(api.Digest(x.d)); got != x.want {
			t.Errorf("Hex returned %q, not %q", got, x.want)
		}
	}
	for _, d := range someDigests() {
		if got, want := digest.Hex(d), hex.EncodeToString([]byte(d)); got != want {
			t.Errorf("Hex returned %q, not %q", got, want)
		}
	}
}

// P2.3: a value that does not have 32 bytes has no hexadecimal form and is not valid.
func TestOtherValuesAreInvalid(t *testing.T) {
	for _, d := range invalidDigests() {
		if got := digest.Hex(d); got != "" {
			t.Errorf("Hex of %d bytes returned %q", len(d), got)
		}
		if digest.Valid(d) {
			t.Errorf("a value of %d bytes is valid", len(d))
		}
	}
}

// P2.3: 32 bytes are valid, whatever they are.
func TestAllValuesOf32BytesAreValid(t *testing.T) {
	for _, d := range someDigests() {
		if !digest.Valid(d) {
			t.Errorf("%q is not valid", d)
		}
	}
}

// P2.3: Parse is the inverse of Hex.
func TestParseReturnsTheDigest(t *testing.T) {
	for _, d := range someDigests() {
		if got, err := digest.Parse(digest.Hex(d)); got != d || err != api.OK {
			t.Errorf("Parse returned %q and %v, not %q", got, err, d)
		}
	}
}

// P2.3: strings of other lengths, also if they begin or end with a hexadecimal form.
func TestParseRejectsOtherLengths(t *testing.T) {
	for length := range 200 {
		if length != 64 {
			expectFormError(t, strings.Repeat("0", length))
			expectFormError(t, strings.Repeat("a", length))
		}
	}
	form := digest.Hex(digest.Of("abc"))
	for _, s := range []string{form[1:], form[:63], form[:62], form + "0", "0" + form, form + "\n", " " + form, "0x" + form, form + form} {
		expectFormError(t, s)
	}
}

// P2.3: at every position, exactly the digits 0-9 and a-f are accepted.
func TestParseRejectsOtherCharacters(t *testing.T) {
	form := digest.Hex(digest.Of("abc"))
	for i := range len(form) {
		for c := range 256 {
			s := form[:i] + string([]byte{byte(c)}) + form[i+1:]
			if strings.IndexByte("0123456789abcdef", byte(c)) < 0 {
				expectFormError(t, s)
			} else if d, err := digest.Parse(s); err != api.OK || digest.Hex(d) != s {
				t.Errorf("Parse(%q) returned %q and %v", s, d, err)
			}
		}
	}
	expectFormError(t, strings.ToUpper(form))
	expectFormError(t, "0x"+form[2:])
	expectFormError(t, "+"+form[1:])
	// 64 bytes, and 64 characters.
	expectFormError(t, strings.Repeat("\u00e9", 32))
	expectFormError(t, strings.Repeat("\u00e9", 64))
}

// P1: no call panics, whatever its input is, and all digests are those of the standard.
func FuzzDigestsFollowTheStandard(f *testing.F) {
	for _, s := range []string{"", "abc", strings.Repeat("0", 64), strings.Repeat("F", 64), scrambled(55), scrambled(64)} {
		f.Add(s, s)
	}
	f.Fuzz(func(t *testing.T, a, b string) {
		if digest.Of(a) != standardDigest(a) || digest.Join(a, b) != standardDigest(serialized([]string{a, b})) {
			t.Errorf("the digest of %q or that of the list with %q is wrong", a, b)
		}
		if d, err := digest.Parse(a); err == api.OK && digest.Hex(d) != a {
			t.Errorf("Parse accepts %q", a)
		}
		if digest.Valid(api.Digest(a)) != (digest.Hex(api.Digest(a)) != "") {
			t.Errorf("Hex and Valid disagree about %q", a)
		}
	})
}
