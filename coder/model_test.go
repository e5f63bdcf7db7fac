package coder_test

import (
	"math"
	"math/big"
	"strings"
	"testing"

	"gouache/api"
	"gouache/coder"
)

const (
	least    = math.MinInt
	greatest = math.MaxInt
)

// coded is a bit in a context.
type coded struct{ context, bit int }

// definition is the model and the interval as the section Words says them, with integers that are reduced after each step.
type definition struct {
	probabilities [256]int
	low, high     int
}

// newDefinition returns the initial model and interval.
func newDefinition() *definition {
	d := &definition{high: 1<<32 - 1}
	for context := range d.probabilities {
		d.probabilities[context] = 2048
	}
	return d
}

// reduced returns an integer modulo 256.
func reduced(n int) int {
	return ((n % 256) + 256) % 256
}

// mid returns the last code of a bit 1.
func (d *definition) mid(context int) int {
	return d.low + (d.high-d.low)/4096*d.probabilities[reduced(context)]
}

// take codes a bit and returns the bytes that it removes.
func (d *definition) take(context, bit int) []byte {
	mid, p := d.mid(context), &d.probabilities[reduced(context)]
	if reduced(bit)%2 == 1 {
		d.high = mid
		*p += (4096 - *p) / 32
	} else {
		d.low = mid + 1
		*p -= *p / 32
	}
	var removed []byte
	for d.low/(1<<24) == d.high/(1<<24) {
		removed = append(removed, byte(d.low/(1<<24)))
		d.low = 256 * d.low % (1 << 32)
		d.high = (256*d.high + 255) % (1 << 32)
	}
	return removed
}

// bytesOf returns the four bytes of an integer.
func bytesOf(n int) []byte {
	return []byte{byte(n / (1 << 24)), byte(n / (1 << 16)), byte(n / (1 << 8)), byte(n)}
}

// written returns the bytes of a writer after these bits, as P11.1 says it.
func written(bits []coded) string {
	d := newDefinition()
	var output []byte
	for _, b := range bits {
		output = append(output, d.take(b.context, b.bit)...)
	}
	return string(append(output, bytesOf(d.low)...))
}

// reading is a reader, as P11.2 says it.
type reading struct {
	*definition
	s          string
	used, code int
}

// newReading returns a new reader.
func newReading(s string) *reading {
	r := &reading{definition: newDefinition(), s: s}
	for range 4 {
		r.push()
	}
	return r
}

// push reads a byte.
func (r *reading) push() {
	next := 0
	if r.used < len(r.s) {
		next = int(r.s[r.used])
	}
	r.code = (256*r.code + next) % (1 << 32)
	r.used++
}

// bit returns the next bit.
func (r *reading) bit(context int) int {
	bit := 0
	if r.code <= r.mid(context) {
		bit = 1
	}
	for range r.take(context, bit) {
		r.push()
	}
	return bit
}

// readBits returns the bits of a reader in these contexts, and how many bytes it has used.
func readBits(s string, contexts []int) ([]int, int) {
	r := newReading(s)
	var bits []int
	for _, context := range contexts {
		bits = append(bits, r.bit(context))
	}
	return bits, r.used
}

// writtenWithoutShifts returns the bytes of a writer that never removes any: low and high are integers of any size, to which a shift appends 0 and 255. The removed bytes are those that both have in common.
func writtenWithoutShifts(bits []coded) string {
	d := newDefinition()
	low, high, length := big.NewInt(0), big.NewInt(1<<32-1), 4
	for _, b := range bits {
		p := &d.probabilities[reduced(b.context)]
		mid := new(big.Int).Sub(high, low)
		mid.Div(mid, big.NewInt(4096)).Mul(mid, big.NewInt(int64(*p))).Add(mid, low)
		if b.bit&1 == 1 {
			high = mid
			*p += (4096 - *p) / 32
		} else {
			low = mid.Add(mid, big.NewInt(1))
			*p -= *p / 32
		}
		for new(big.Int).Rsh(low, 24).Cmp(new(big.Int).Rsh(high, 24)) == 0 {
			low = new(big.Int).Lsh(low, 8)
			high = new(big.Int).Lsh(high, 8)
			high.Add(high, big.NewInt(255))
			length++
		}
	}
	return string(low.FillBytes(make([]byte, length)))
}

// bitsOf returns the bits of a string with their contexts, as P11.3 says it: the contexts are the bits before, behind a 1.
func bitsOf(s string) []coded {
	var bits []coded
	for i := range len(s) {
		context, value := 1, int(s[i])
		for _, weight := range []int{128, 64, 32, 16, 8, 4, 2, 1} {
			bit := value / weight % 2
			bits = append(bits, coded{context, bit})
			context = 2*context + bit
		}
	}
	return bits
}

// encoded returns the encoding of a string, as P11.3 says it.
func encoded(s string) string {
	return written(bitsOf(s))
}

// decoded returns what Decode returns, as P11.4 says it: the bytes that are read are encoded again, to be compared.
func decoded(s string, n int) (string, api.Errno) {
	if n < 0 || n > 65536 {
		return "", api.ErrArg
	}
	r := newReading(s)
	var bytes []byte
	for range n {
		context := 1
		for range 8 {
			context = 2*context + r.bit(context)
		}
		bytes = append(bytes, byte(context-256))
	}
	if encoded(string(bytes)) != s {
		return "", api.ErrForm
	}
	return string(bytes), api.OK
}

// writerOf returns a writer that has written these bits.
func writerOf(bits []coded) *coder.Writer {
	w := coder.NewWriter()
	for _, b := range bits {
		w.Bit(b.context, b.bit)
	}
	return w
}

// contextsOf returns the contexts of bits.
func contextsOf(bits []coded) []int {
	contexts := make([]int, len(bits))
	for i, b := range bits {
		contexts[i] = b.context
	}
	return contexts
}

// repeated returns a bit many times.
func repeated(n, context, bit int) []coded {
	bits := make([]coded, n)
	for i := range bits {
		bits[i] = coded{context, bit}
	}
	return bits
}

// straddling returns bits after which the middle of all codes, 2^31, is still in the interval, without a shift, but any other bit removes bytes. Their contexts are 0, or all of them in turn.
func straddling(contexts int) []coded {
	d := newDefinition()
	var bits []coded
	for {
		context := len(bits) % contexts
		bit := 0
		switch mid := d.mid(context); {
		case mid >= 1<<31:
			bit = 1
		case mid == 1<<31-1:
			return bits
		}
		d.take(context, bit)
		bits = append(bits, coded{context, bit})
	}
}

// scatter returns a function that returns integers from 0 to n - 1 without a visible order, others for each seed.
func scatter(seed uint64) func(n int) int {
	state := seed
	return func(n int) int {
		state = state*6364136223846793005 + 1442695040888963407
		return int(state >> 33 % uint64(n))
	}
}

// scatteredBytes returns a string of n bytes without a visible order.
func scatteredBytes(seed uint64, n int) string {
	next := scatter(seed)
	s := make([]byte, n)
	for i := range s {
		s[i] = byte(next(256))
	}
	return string(s)
}

// scatteredBits returns bits without a visible order in a number of contexts; a bit is 1 in so many of a hundred cases.
func scatteredBits(seed uint64, n, contexts, ones int) []coded {
	next := scatter(seed)
	bits := make([]coded, n)
	for i := range bits {
		bits[i].context = next(contexts)
		if next(100) < ones {
			bits[i].bit = 1
		}
	}
	return bits
}

// manyBits returns sequences of bits of all kinds: probable and improbable ones, in one context and in all of them.
func manyBits() [][]coded {
	all := [][]coded{nil, straddling(1), straddling(256)}
	for _, bit := range []int{0, 1} {
		all = append(all, repeated(2000, 7, bit), append(repeated(1000, 9, bit), repeated(1000, 9, 1-bit)...))
		all = append(all, append(straddling(1), repeated(50, 0, bit)...), append(straddling(256), repeated(50, 0, bit)...))
	}
	for seed := range uint64(6) {
		for _, contexts := range []int{1, 3, 256} {
			for _, ones := range []int{1, 20, 50, 97} {
				all = append(all, scatteredBits(seed, 1500, contexts, ones))
			}
		}
	}
	return all
}

// allBytes returns the 256 bytes.
func allBytes() string {
	var all []byte
	for b := range 256 {
		all = append(all, byte(b))
	}
	return string(all)
}

// manyStrings returns strings of all kinds.
func manyStrings() []string {
	all := []string{"", "a", "\x00", "\xff", "\x80", "\x7f", "hello, world", "\xc3\x28 not UTF-8", "caf\u00e9 \u4e16\u754c", allBytes()}
	for _, n := range []int{2, 3, 10, 100, 1000, 3000} {
		next := scatter(uint64(n))
		few := make([]byte, n)
		for i := range few {
			few[i] = "ab\x00\xff"[next(4)]
		}
		all = append(all, strings.Repeat("\x00", n), strings.Repeat("\xff", n), strings.Repeat("a", n), string(few), scatteredBytes(uint64(n), n))
	}
	return all
}

// The definition agrees with the one that never removes bytes, so that it removes the right ones.
func TestDefinition(t *testing.T) {
	for i, bits := range manyBits() {
		if got, want := written(bits), writtenWithoutShifts(bits); got != want {
			t.Errorf("case %d: the bytes of %d bits are %x, without shifts %x", i, len(bits), got, want)
		}
	}
}
