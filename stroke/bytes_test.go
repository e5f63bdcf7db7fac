package stroke_test

import (
	"strings"
	"testing"

	"gouache/api"
	"gouache/stroke"
)

// P14.7: each field has its bytes.
func TestBytes(t *testing.T) {
	s := api.Stroke{Points: []api.StrokePoint{at(-1, 2, 3)}, Radius: 256, Spacing: 1, Phase: 70000, Colour: of(1, 2, 3, 4), Erase: true}
	expectBytes(t, s, "\x01\x0f\xff\xff\x10\x00\x02\x03\x01\x00\x00\x01\x01\x02\x03\x04\x01\x01\x11\x70")
	s = api.Stroke{Points: []api.StrokePoint{at(lowest, highest, 255), at(0x12345, -0x12345, 0)}, Radius: 0x7f, Spacing: 0x0fed, Phase: 0xfedcb, Colour: of(250, 240, 230, 220)}
	expectBytes(t, s, "\x02\x00\x00\x00\x1f\xff\xff\xff\x11\x23\x45\x0e\xdc\xbb\x00\x00\x7f\x0f\xed\xfa\xf0\xe6\xdc\x00\x0f\xed\xcb")
}

// P14.7: the least and the greatest value of every field.
func TestBytesOfLimits(t *testing.T) {
	expectBytes(t, api.Stroke{Points: []api.StrokePoint{at(lowest, lowest, 0)}, Radius: 1, Spacing: 1}, "\x01\x00\x00\x00\x00\x00\x00\x00\x00\x01\x00\x01\x00\x00\x00\x00\x00\x00\x00\x00")
	expectBytes(t, erasing(api.Stroke{Points: []api.StrokePoint{at(highest, highest, 255)}, Radius: 256, Spacing: 4096, Phase: 1048575, Colour: of(255, 255, 255, 255)}), "\x01\x1f\xff\xff\x1f\xff\xff\xff\x01\x00\x10\x00\xff\xff\xff\xff\x01\x0f\xff\xff")
	for n, limits := range fieldLimits() {
		for _, s := range far() {
			for _, changed := range withFields(s, n, limits[0], limits[0]+1, limits[1]-1, limits[1]) {
				expectBytes(t, changed, serialized(changed))
			}
		}
	}
	for channel := range 4 {
		for _, v := range []byte{0, 1, 127, 128, 255} {
			var c [4]byte
			c[channel] = v
			s := coloured(brush(1, 1, 0, at(0, 0, 0)), of(c[0], c[1], c[2], c[3]))
			expectBytes(t, s, serialized(s))
		}
	}
}

// P14.7: strokes of every number of points, and many others.
func TestBytesOfManyStrokes(t *testing.T) {
	for n := 1; n <= 64; n++ {
		s := brush(16, 40, 10, winding(n)...)
		expectBytes(t, s, serialized(s))
		if got := len(stroke.Bytes(s)); got != 13+7*n {
			t.Errorf("%d points need %d bytes", n, got)
		}
	}
	for _, s := range validStrokes() {
		expectBytes(t, s, serialized(s))
	}
	for seed := range 500 {
		s := scatteredStroke(seed)
		expectBytes(t, s, serialized(s))
	}
}

// P14.7: the bytes tell the stroke.
func TestBytesTellStrokes(t *testing.T) {
	strokes := validStrokes()
	for seed := range 100 {
		strokes = append(strokes, scatteredStroke(seed))
	}
	for i, a := range strokes {
		for _, b := range strokes[:i] {
			if (stroke.Bytes(a) == stroke.Bytes(b)) != isSame(a, b) {
				t.Errorf("%v and %v have the bytes %x and %x", a, b, stroke.Bytes(a), stroke.Bytes(b))
			}
		}
	}
}

// P14.7: a stroke that is not valid has no encoding. Its fields, encoded like others, are not read.
func TestBytesOfInvalidStrokes(t *testing.T) {
	for _, s := range invalidStrokes() {
		if got := stroke.Bytes(s); got != "" {
			t.Errorf("Bytes of %v is %x", s, got)
		}
	}
	for _, s := range []api.Stroke{
		brush(0, 1, 0, at(0, 0, 0)), brush(257, 1, 0, at(0, 0, 0)), brush(65535, 1, 0, at(0, 0, 0)), brush(1, 0, 0, at(0, 0, 0)), brush(1, 4097, 0, at(0, 0, 0)), brush(1, 65535, 0, at(0, 0, 0)), brush(1, 1, 1048576, at(0, 0, 0)), brush(1, 1, 1<<24-1, at(0, 0, 0)),
		brush(1, 1, 0, at(highest+1, 0, 0)), brush(1, 1, 0, at(0, highest+1, 0)), brush(1, 1, 0, at(1<<24-1-1048576, 0, 0)), brush(1, 1, 0, at(0, 1<<24-1-1048576, 0)), brush(1, 1, 0, at(0, 0, 0), at(0, 0, 0), at(highest+1, 0, 0)),
		brush(1, 1, 0, pressed(0, 0, 1025, 0)...), brush(1, 1, 0, pressed(lowest, 0, highest, 0)...),
	} {
		expectInvalid(t, s)
		expectUnreadable(t, serialized(s), api.ErrForm)
		expectUnreadable(t, serialized(s)[:len(serialized(s))-1], api.ErrShort)
	}
	expectBytes(t, brush(1, 1, 0, pressed(0, 0, 1024, 0)...), serialized(brush(1, 1, 0, pressed(0, 0, 1024, 0)...)))
}

// P14.7: every encoding that has been shortened or lengthened.
func TestReadOfOtherLengths(t *testing.T) {
	expectUnreadable(t, "", api.ErrShort)
	for _, s := range []api.Stroke{brush(1, 1, 0, at(0, 0, 0)), brush(16, 40, 10, winding(2)...), brush(16, 40, 10, winding(3)...), brush(16, 40, 10, winding(64)...), erasing(brush(256, 4096, 1048575, winding(5)...))} {
		encoded := stroke.Bytes(s)
		for n := range len(encoded) {
			expectUnreadable(t, encoded[:n], api.ErrShort)
			// Without its first bytes, it is another string, which may begin with any number of points.
			if n > 0 {
				expectRead(t, encoded[n:])
			}
		}
		for _, more := range []string{"\x00", "\x01", "\x00\x00\x00\x00\x00\x00\x00", encoded, strings.Repeat("\xff", 3000)} {
			expectUnreadable(t, encoded+more, api.ErrForm)
		}
	}
}

// P14.7: numbers of points that no stroke has are a matter of form only if there are enough bytes for them.
func TestReadOfOtherCounts(t *testing.T) {
	for _, n := range []int{0, 65, 66, 100, 128, 255} {
		rest := strings.Repeat("\x00", 7*n) + "\x00\x01\x00\x01\x00\x00\x00\x00\x00\x00\x00\x00"
		encoded := string([]byte{byte(n)}) + rest
		expectUnreadable(t, encoded, api.ErrForm)
		expectUnreadable(t, encoded+"\x00", api.ErrForm)
		for length := 1; length < len(encoded); length++ {
			expectUnreadable(t, encoded[:length], api.ErrShort)
		}
	}
	// The number of points of an encoding is changed: there are too few bytes for more points, and too many for fewer.
	encoded := stroke.Bytes(brush(16, 40, 10, winding(64)...))
	for n := range 256 {
		switch changed := string([]byte{byte(n)}) + encoded[1:]; {
		case n < 64:
			expectUnreadable(t, changed, api.ErrForm)
		case n > 64:
			expectUnreadable(t, changed, api.ErrShort)
		}
	}
	for n := range 256 {
		expectUnreadable(t, string([]byte{byte(n)}), api.ErrShort)
	}
}

// P14.7: Erase is 0 or 1.
func TestReadOfErase(t *testing.T) {
	encoded := stroke.Bytes(brush(16, 40, 10, winding(2)...))
	place := len(encoded) - 4
	for n := range 256 {
		changed := encoded[:place] + string([]byte{byte(n)}) + encoded[place+1:]
		got, err := stroke.Read(changed)
		switch {
		case n <= 1:
			if err != api.OK || got.Erase != (n == 1) {
				t.Errorf("Erase of %d is read as %v, with the error %d", n, got.Erase, err)
			}
		default:
			expectUnreadable(t, changed, api.ErrForm)
		}
	}
}

// expectRead reports a result of Read other than that by the definition: strings are decoded in the only way in which they could be an encoding.
func expectRead(t *testing.T, encoded string) {
	t.Helper()
	if encoded == "" || len(encoded) < 13+7*int(encoded[0]) {
		expectUnreadable(t, encoded, api.ErrShort)
		return
	}
	rest := encoded[1:]
	number := func(size int) int {
		n := 0
		for i := range size {
			n = 256*n + int(rest[i])
		}
		rest = rest[size:]
		return n
	}
	var want api.Stroke
	for range encoded[0] {
		want.Points = append(want.Points, at(number(3)-1048576, number(3)-1048576, number(1)))
	}
	want.Radius, want.Spacing = number(2), number(2)
	want.Colour = of(uint8(number(1)), uint8(number(1)), uint8(number(1)), uint8(number(1)))
	erase := number(1)
	want.Erase, want.Phase = erase == 1, number(3)
	if erase > 1 || rest != "" || !isValid(want) {
		expectUnreadable(t, encoded, api.ErrForm)
		return
	}
	expectBytes(t, want, encoded)
}

// P14.7: each byte of an encoding replaced by others.
func TestReadOfChangedBytes(t *testing.T) {
	for _, s := range []api.Stroke{brush(1, 1, 0, at(0, 0, 0)), brush(16, 40, 10, winding(3)...), erasing(brush(256, 4096, 1048575, at(highest, lowest, 255), at(lowest, highest, 0)))} {
		encoded := stroke.Bytes(s)
		for i := range len(encoded) {
			for _, b := range []byte{0, 1, 2, 15, 16, 31, 32, 127, 128, 255, encoded[i] + 1, encoded[i] - 1} {
				expectRead(t, encoded[:i]+string([]byte{b})+encoded[i+1:])
			}
		}
	}
}

// P14.7: strings that nobody has encoded.
func TestReadOfAnyStrings(t *testing.T) {
	for _, encoded := range []string{"a", "gouache", strings.Repeat("\x00", 13), strings.Repeat("\x01", 20), strings.Repeat("\x02", 27), strings.Repeat("\xff", 2000), strings.Repeat("\x40", 461), strings.Repeat("\x41", 468), strings.Repeat("\x00", 100000)} {
		expectRead(t, encoded)
	}
	for seed := range 2000 {
		next := scatter(seed)
		encoded := []byte{byte(next(4))}
		for range 12 + 7*int(encoded[0]) {
			encoded = append(encoded, byte(next(3)))
		}
		expectRead(t, string(encoded))
	}
}
