package digest_test

import (
	"crypto/sha256"
	"encoding/binary"
	"encoding/hex"
	"slices"
	"strings"
	"testing"

	"gouache/api"
	"gouache/digest"
)

// standardDigest returns the SHA-256 digest of s as Go's library computes it.
func standardDigest(s string) api.Digest {
	d := sha256.Sum256([]byte(s))
	return api.Digest(d[:])
}

// scrambled returns a string of the given length whose bytes follow a fixed, irregular rule.
func scrambled(length int) string {
	bytes := make([]byte, length)
	state := uint32(length) + 1
	for i := range bytes {
		state = state*1664525 + 1013904223
		bytes[i] = byte(state >> 24)
	}
	return string(bytes)
}

// serialized returns the string as which a list is hashed.
func serialized(parts []string) string {
	var bytes []byte
	for _, part := range parts {
		bytes = binary.BigEndian.AppendUint64(bytes, uint64(len(part)))
		bytes = append(bytes, part...)
	}
	return string(bytes)
}

// someLists returns different lists. Many of them have the same concatenation, also with the lengths of other lists.
func someLists() [][]string {
	const zeros = "\x00\x00\x00\x00\x00\x00\x00"
	lists := [][]string{
		nil,
		{""}, {"", ""}, {"", "", ""},
		{"a"}, {"a", ""}, {"", "a"}, {"", "a", ""},
		{"abc"}, {"a", "bc"}, {"ab", "c"}, {"a", "b", "c"}, {"abc", ""}, {"", "abc"}, {"a", "", "bc"},
		{"c", "b", "a"}, {"bc", "a"},
		{zeros + "\x00"}, {zeros + "\x01a"}, {zeros + "\x01a" + zeros + "\x02bc"}, {"a" + zeros + "\x02bc"},
		{"\x00"}, {"\x00", "\x00"}, {"\x00\x00"},
	}
	for _, length := range []int{47, 48, 55, 56, 63, 64, 65, 255, 256, 300, 65535, 65536} {
		s := scrambled(length)
		lists = append(lists, []string{s}, []string{s, ""}, []string{"", s}, []string{s[:1], s[1:]}, []string{s[:length-1], s[length-1:]}, strings.Split(s, ""))
	}
	return lists
}

// P2.1: the examples of the chapter and the test vectors of the standard.
func TestOfReturnsTheDigestsOfTheStandard(t *testing.T) {
	for _, x := range []struct{ s, want string }{
		{"", "e3b0c44298fc1c149afbf4c8996fb92427ae41e4649b934ca495991b7852b855"},
		{"abc", "ba7816bf8f01cfea414140de5dae2223b00361a396177a9cb410ff61f20015ad"},
		{"abcdbcdecdefdefgefghfghighijhijkijkljklmklmnlmnomnopnopq", "248d6a61d20638b8e5c026930c3e6039a33ce45964ff2167f6ecedd419db06c1"},
		{"abcdefghbcdefghicdefghijdefghijkefghijklfghijklmghijklmnhijklmnoijklmnopjklmnopqklmnopqrlmnopqrsmnopqrstnopqrstu", "cf5b16a778af8380036ce59e7b0492370b249b11e8f07a51afac45037afee9d1"},
		{strings.Repeat("a", 1000000), "cdc76e5c9914fb9281a1c7e284d73e67f1809a48a497200e046d39ccc7112cd0"},
		{"\xbd", "68325720aabd7c82f30f554b313d0570c95accbb7dc4b5aae11204c08ffe732b"},
		{"\xc9\x8c\x8e\x55", "7abc22c0ae5af26ce93dbb94433a0e0b2e119d014f8e7f65bd56c61ccccd9504"},
		{strings.Repeat("\x00", 55), "02779466cdec163811d078815c633f21901413081449002f24aa3e80f0b88ef7"},
		{strings.Repeat("\x00", 56), "d4817aa5497628e7c77e6b606107042bbba3130888c5f47a375e6179be789fbb"},
		{strings.Repeat("\x00", 57), "65a16cb7861335d5ace3c60718b5052e44660726da4cd13bb745381b235a1785"},
		{strings.Repeat("\x00", 64), "f5a5fd42d16a20302798ef6ed309979b43003d2320d9f0e8ea9831a92759fb4b"},
	} {
		if got := hex.EncodeToString([]byte(digest.Of(x.s))); got != x.want {
			t.Errorf("the digest of %d bytes is %s, not %s", len(x.s), got, x.want)
		}
	}
}

// P2.1: all lengths up to some blocks, thus all lengths of the padding, and the lengths around the boundary of a block.
func TestOfPadsAllLengths(t *testing.T) {
	for length := range 6 * 64 {
		for _, s := range []string{scrambled(length), strings.Repeat("\x00", length), strings.Repeat("\xff", length), strings.Repeat("\x80", length)} {
			if digest.Of(s) != standardDigest(s) {
				t.Errorf("the digest of %d bytes, the first of them %q, is wrong", length, s[:min(length, 1)])
			}
		}
	}
	for _, length := range []int{1 << 13, 1 << 16, 1<<20 + 55, 1<<20 + 56, 1<<20 + 63, 1 << 21, 1<<24 + 1} {
		s := scrambled(length)
		if digest.Of(s) != standardDigest(s) {
			t.Errorf("the digest of %d bytes is wrong", length)
		}
	}
}

// P2.1: the length in bits may need more than 32 bits; this is the shortest such string.
func TestOfCountsTheBitsOfLongStrings(t *testing.T) {
	if testing.Short() {
		t.Skip("hashes 512 MiB")
	}
	s := strings.Repeat("0123456789abcdef", 1<<25)
	const want = "87e7c7d1965ebd6904a1e80e54750fb53ced36e8e85a78869e1d4cdaa3ce3170"
	if got := hex.EncodeToString([]byte(digest.Of(s))); got != want {
		t.Errorf("the digest of %d bytes is %s, not %s", len(s), got, want)
	}
}

// P2.1: every bit of the string is hashed, whatever its bytes are.
func TestOfDependsOnEveryBit(t *testing.T) {
	for _, length := range []int{1, 55, 56, 63, 64, 65, 130} {
		original := scrambled(length)
		seen := map[api.Digest]bool{digest.Of(original): true}
		for bit := range 8 * length {
			changed := []byte(original)
			changed[bit/8] ^= 1 << (bit % 8)
			d := digest.Of(string(changed))
			if seen[d] {
				t.Errorf("bit %d of %d bytes does not change the digest", bit, length)
			}
			seen[d] = true
		}
	}
}

// P2.1: the call does not depend on those before it.
func TestOfReturnsTheSameAgain(t *testing.T) {
	first := digest.Of("abc")
	digest.Of(scrambled(1000))
	digest.Join("abc", "def")
	if digest.Of("abc") != first {
		t.Error("the digest depends on earlier calls")
	}
}

// P2.2: the serializations, written out, of lists without parts, with empty parts and with the same concatenation.
func TestJoinHashesPartsWithTheirLengths(t *testing.T) {
	const zeros = "\x00\x00\x00\x00\x00\x00\x00"
	long := scrambled(258)
	for _, x := range []struct {
		parts  []string
		hashed string
	}{
		{nil, ""},
		{[]string{}, ""},
		{[]string{""}, zeros + "\x00"},
		{[]string{"", ""}, zeros + "\x00" + zeros + "\x00"},
		{[]string{"abc"}, zeros + "\x03abc"},
		{[]string{"a", "bc"}, zeros + "\x01a" + zeros + "\x02bc"},
		{[]string{"ab", "c"}, zeros + "\x02ab" + zeros + "\x01c"},
		{[]string{"", "a", ""}, zeros + "\x00" + zeros + "\x01a" + zeros + "\x00"},
		{[]string{long, "x"}, zeros[1:] + "\x01\x02" + long + zeros + "\x01x"},
	} {
		if digest.Join(x.parts...) != standardDigest(x.hashed) {
			t.Errorf("Join of %d parts is not the digest of %q", len(x.parts), x.hashed)
		}
	}
	if digest.Join() != digest.Of("") {
		t.Error("Join without parts is not Of of the empty string")
	}
}

// P2.2: the same for many lists, against a second serialization.
func TestJoinIsOfOfTheSerialization(t *testing.T) {
	for i, parts := range someLists() {
		if s := serialized(parts); digest.Join(parts...) != standardDigest(s) || digest.Join(parts...) != digest.Of(s) {
			t.Errorf("list %d, of %d parts: Join is not Of of the serialization", i, len(parts))
		}
	}
}

// R3: Join does not change its parts, nor what lies behind them.
func TestJoinLeavesItsPartsUnchanged(t *testing.T) {
	all := []string{"a", "", "bc", "behind"}
	digest.Join(all[:3]...)
	if !slices.Equal(all, []string{"a", "", "bc", "behind"}) {
		t.Errorf("the parts are %q after Join", all)
	}
}

// P2.4: every result is valid, for empty input too.
func TestResultsAreValid(t *testing.T) {
	for length := range 200 {
		if d := digest.Of(scrambled(length)); len(d) != 32 || !digest.Valid(d) {
			t.Errorf("Of returned %q for %d bytes", d, length)
		}
	}
	for _, parts := range someLists() {
		if d := digest.Join(parts...); len(d) != 32 || !digest.Valid(d) {
			t.Errorf("Join returned %q for %d parts", d, len(parts))
		}
	}
}

// P2.4: different lists have different digests, also if they have the same concatenation.
func TestDifferentListsHaveDifferentDigests(t *testing.T) {
	lists := map[api.Digest][]string{}
	for _, parts := range someLists() {
		d := digest.Join(parts...)
		if other, ok := lists[d]; ok && !slices.Equal(other, parts) {
			t.Errorf("the lists %.100q and %.100q have the same digest", other, parts)
		}
		lists[d] = parts
	}
}

// P2.4: all ways to divide a string into parts, some of them empty, are different lists.
func TestDivisionsOfAStringHaveDifferentDigests(t *testing.T) {
	const s = "\x00\x00\x00\x00\x00\x00\x00\x00\x00\x00"
	seen := map[api.Digest]bool{}
	count := 0
	for i := range len(s) + 1 {
		for j := i; j <= len(s); j++ {
			for k := j; k <= len(s); k++ {
				seen[digest.Join(s[:i], s[i:j], s[j:k], s[k:])] = true
				count++
			}
			seen[digest.Join(s[:i], s[i:j], s[j:])] = true
			count++
		}
		seen[digest.Join(s[:i], s[i:])] = true
		count++
	}
	if len(seen) != count {
		t.Errorf("%d lists have %d digests", count, len(seen))
	}
}
