package octet

// Reader decodes the encodings of Put, Var and Text one after the other. After a call has failed, all later calls fail. A nil Reader has failed; the zero value reads the empty string.
type Reader struct {
	text   string
	at     int // bytes before the position
	failed bool
}

// Read returns a reader positioned at the first byte of s.
func Read(s string) *Reader {
	return &Reader{text: s}
}

// Num decodes the next size bytes as a big-endian unsigned integer; size is clamped to 0..8.
func (r *Reader) Num(size int) int {
	var n uint64
	for _, b := range []byte(r.Take(clampFixedSize(size))) {
		n = n<<8 | uint64(b)
	}
	return int(n)
}

// Var decodes the next encoding written by Var; it fails for any other encoding of an integer.
func (r *Reader) Var() int {
	if r.Failed() {
		return 0
	}
	n, groups, ok := decodeGroups(r.text[r.at:])
	if !ok {
		r.failed = true
		return 0
	}
	r.at += groups
	return int(n)
}

// Text decodes the next encoding written by Text.
func (r *Reader) Text() string {
	if r.Failed() {
		return ""
	}
	start := r.at
	s := r.takeSized(r.Var)
	if r.failed {
		// The length may have been decoded before the failure.
		r.at = start
	}
	return s
}

// takeSized returns the next bytes, as many as the decoder size says. If that decoder fails, so does the Take after it.
func (r *Reader) takeSized(size func() int) string {
	return r.Take(size())
}

// Take returns the next n bytes.
func (r *Reader) Take(n int) string {
	if r.Failed() {
		return ""
	}
	if n < 0 || n > r.Left() {
		r.failed = true
		return ""
	}
	start := r.at
	r.at += n
	return r.text[start:r.at]
}

// At returns the number of bytes before the position.
func (r *Reader) At() int {
	if r == nil {
		return 0
	}
	return r.at
}

// Left returns the number of bytes after the position.
func (r *Reader) Left() int {
	if r == nil {
		return 0
	}
	return len(r.text) - r.at
}

// Failed reports whether a call has failed.
func (r *Reader) Failed() bool {
	return r == nil || r.failed
}

// decodeGroups decodes the integer at the start of s and returns how many groups it has. It rejects whatever Var does not return, so that each integer has exactly one encoding.
func decodeGroups(s string) (n uint64, groups int, ok bool) {
	for i := range len(s) {
		group := s[i]
		if i == maxGroups-1 && group > 1 {
			return 0, 0, false // only one of the 64 bits is left for the last group
		}
		n |= uint64(group&groupMask) << (groupBits * i)
		if group < moreGroups {
			redundant := group == 0 && i > 0
			if redundant {
				return 0, 0, false
			}
			return n, i + 1, true
		}
	}
	return 0, 0, false
}
