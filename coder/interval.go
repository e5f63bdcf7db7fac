package coder

const (
	codeBytes = 4 // bytes of a bound of an interval
	codeBits  = codeBytes * byteBits
	topShift  = codeBits - byteBits // places of the bits below the most significant byte
)

// interval is what the bits so far leave of the codes from 0 to 2^32 - 1. It keeps how far its upper bound is below the greatest code, so that its zero value has all codes.
type interval struct {
	low  uint32
	lack uint32
}

// high returns the upper bound.
func (i *interval) high() uint32 {
	return ^i.lack
}

// mid returns the last code of a bit 1 with a probability. Neither the product nor the sum exceeds 32 bits, because the probability is at most certainty.
func (i *interval) mid(probability int) uint32 {
	return i.low + (i.high()-i.low)/certainty*uint32(probability)
}

// narrow leaves the codes of a bit: those up to mid of a bit 1, and those after mid of a bit 0.
func (i *interval) narrow(mid uint32, bit int) {
	if bit == 1 {
		i.lack = ^mid
	} else {
		i.low = mid + 1
	}
}

// shift removes the most significant bytes that all codes share, and passes each of them to a function. It ends after four bytes at the latest, when the interval has all codes again.
func (i *interval) shift(removed func(b byte)) {
	for i.low>>topShift == i.high()>>topShift {
		top := byte(i.low >> topShift)
		i.low <<= byteBits
		// What is shifted into the upper bound are ones, and so zeros into what it lacks.
		i.lack <<= byteBits
		removed(top)
	}
}
