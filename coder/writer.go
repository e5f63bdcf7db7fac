package coder

import "slices"

// Writer encodes bits, each in one of 256 contexts. The zero value is a new writer.
type Writer struct {
	model
	interval
	output []byte // the bytes that are final
}

// NewWriter returns a writer without output.
func NewWriter() *Writer {
	return &Writer{}
}

// Bit encodes the lowest bit of bit in a context.
func (w *Writer) Bit(context, bit int) {
	if w == nil {
		return
	}
	bit &= 1
	w.narrow(w.mid(w.probability(context)), bit)
	w.learn(context, bit)
	w.shift(func(b byte) { w.output = append(w.output, b) })
}

// Bytes returns the encoding of the bits so far. Its last four bytes are the least code that is left, which later bits may raise.
func (w *Writer) Bytes() string {
	if w == nil {
		return ""
	}
	encoded := slices.Clone(w.output)
	for rest := topShift; rest >= 0; rest -= byteBits {
		encoded = append(encoded, byte(w.low>>rest))
	}
	return string(encoded)
}
