package stroke

import (
	"strings"

	"gouache/api"
	"gouache/octet"
)

// The numbers of bytes of the fields of a stroke.
const (
	countSize    = 1
	unitSize     = 3
	pressureSize = 1
	brushSize    = 2
	spacingSize  = 2
	channelSize  = 1
	eraseSize    = 1
	phaseSize    = 3
)

// Bytes serializes a valid stroke.
func Bytes(s api.Stroke) string {
	if !Valid(s) {
		return ""
	}
	var encoded strings.Builder
	put := func(n, size int) { encoded.WriteString(octet.Put(n, size)) }
	put(len(s.Points), countSize)
	for _, p := range s.Points {
		put(p.X+maxUnit, unitSize)
		put(p.Y+maxUnit, unitSize)
		put(p.Pressure, pressureSize)
	}
	put(s.Radius, brushSize)
	put(s.Spacing, spacingSize)
	for _, channel := range [...]uint8{s.Colour.R, s.Colour.G, s.Colour.B, s.Colour.A} {
		put(int(channel), channelSize)
	}
	erase := 0
	if s.Erase {
		erase = 1
	}
	put(erase, eraseSize)
	put(s.Phase, phaseSize)
	return encoded.String()
}

// Read returns the stroke with this encoding.
func Read(s string) (api.Stroke, api.Errno) {
	r := octet.Read(s)
	decoded := decode(r)
	switch {
	case r.Failed():
		return api.Stroke{}, api.ErrShort
	// Neither an invalid stroke nor one with other bytes behind it has this encoding.
	case Bytes(decoded) != s:
		return api.Stroke{}, api.ErrForm
	}
	return decoded, api.OK
}

// decode returns the stroke whose fields have these values, be it valid or not. The reader fails if there are not enough bytes for them.
func decode(r *octet.Reader) api.Stroke {
	var s api.Stroke
	for range r.Num(countSize) {
		s.Points = append(s.Points, api.StrokePoint{
			X:        r.Num(unitSize) - maxUnit,
			Y:        r.Num(unitSize) - maxUnit,
			Pressure: r.Num(pressureSize),
		})
	}
	s.Radius, s.Spacing = r.Num(brushSize), r.Num(spacingSize)
	channel := func() uint8 { return uint8(r.Num(channelSize)) }
	s.Colour = api.Pixel{R: channel(), G: channel(), B: channel(), A: channel()}
	s.Erase = r.Num(eraseSize) == 1
	s.Phase = r.Num(phaseSize)
	return s
}
