package coder

// Reader decodes bits. The zero value is a new reader of the empty string.
type Reader struct {
	model
	interval
	input  string
	code   uint32 // the last four bytes that were read; a code of the interval
	shifts int    // how many bytes were read after the first four
}

// NewReader returns a reader of the bytes of a writer, with any bytes after them.
func NewReader(s string) *Reader {
	r := &Reader{input: s}
	for at := range codeBytes {
		r.push(at)
	}
	return r
}

// Bit decodes a bit in a context.
func (r *Reader) Bit(context int) int {
	if r == nil {
		return 0
	}
	bit, mid := 0, r.mid(r.probability(context))
	if r.code <= mid {
		bit = 1
	}
	r.narrow(mid, bit)
	r.learn(context, bit)
	r.shift(func(byte) {
		r.push(r.Used())
		r.shifts++
	})
	return bit
}

// Used returns how many bytes were read, with those after the end of the string.
func (r *Reader) Used() int {
	if r == nil {
		return 0
	}
	return codeBytes + r.shifts
}

// push appends the input's byte at an index to the code, in place of its most significant one. After the end of the input there are zeros.
func (r *Reader) push(at int) {
	next := byte(0)
	if at < len(r.input) {
		next = r.input[at]
	}
	r.code = r.code<<byteBits | uint32(next)
}

// isWhole reports whether the input is what a writer returns for the bits that were read. The bytes before the code are that writer's output, because they were removed from the code and from the bounds of the interval at once.
func (r *Reader) isWhole() bool {
	return r.Used() == len(r.input) && r.code == r.low
}
