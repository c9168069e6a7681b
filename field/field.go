// Package field is layer 1, numbers in files: see shared/doc/01-field.md.
package field

import "strings"

const (
	maxSize   = 8 // bytes of the greatest field
	coordSize = 4 // bytes of a coordinate's field
)

// Put: a number's field; of a size that isn't 1 to 8 the empty text.
func Put(n uint64, size int) string {
	if !isSize(size) {
		return ""
	}
	out := make([]byte, 0, size)
	putField(n, size, func(b byte) { out = append(out, b) })
	return string(out)
}

// Get: the number of the field that a text has from a place on; false, if it has none there.
func Get(s string, at, size int) (uint64, bool) {
	// at stands alone on its side: at + size could go round.
	if !isSize(size) || at < 0 || at > len(s)-size {
		return 0, false
	}
	var n uint64
	for i := range size {
		n |= uint64(s[at+i]) << (8 * i)
	}
	return n, true
}

// Signed: what the field of a number tells, if it is signed; of a size that isn't 1 to 8 it is 0.
func Signed(n uint64, size int) int64 {
	if !isSize(size) {
		return 0
	}
	// Up first, so that the field's highest bit is the one that the way down repeats.
	unused := 8 * (maxSize - size)
	return int64(n<<unused) >> unused
}

// Fits: is a number told whole by a field of a size, unsigned?
func Fits(n, size int) bool {
	switch {
	case n < 0:
		return false
	case size < 1:
		return n == 0
	case size >= maxSize:
		return true
	}
	return uint64(n)>>(8*size) == 0
}

// Row: the signed fields of coordinates, one behind the other.
func Row(l ...int32) string {
	out := make([]byte, 0, coordSize*len(l))
	put := func(b byte) { out = append(out, b) }
	for _, c := range l {
		putField(uint64(c), coordSize, put)
	}
	return string(out)
}

// Column: the coordinates of a row; false, if the text isn't one.
func Column(s string) ([]int32, bool) {
	if len(s)%coordSize != 0 {
		return nil, false
	}
	l := make([]int32, 0, len(s)/coordSize)
	for at := 0; at < len(s); at += coordSize {
		n, _ := Get(s, at, coordSize)
		l = append(l, int32(Signed(n, coordSize)))
	}
	return l, true
}

// Cut: a text in parts of just these sizes; false, if they don't make up the text.
func Cut(s string, sizes ...int) ([]string, bool) {
	parts := make([]string, 0, len(sizes))
	for _, size := range sizes {
		// Each is held against what is left: the sum of all could go round.
		if size < 0 || size > len(s) {
			return nil, false
		}
		// A clone, as an answer shares no memory with what was handed in.
		parts = append(parts, strings.Clone(s[:size]))
		s = s[size:]
	}
	if s != "" {
		return nil, false
	}
	return parts, true
}

func isSize(size int) bool { return size >= 1 && size <= maxSize }

// putField hands the bytes of a field on, so that those who put one and those who put many gather them alike.
func putField(n uint64, size int, put func(b byte)) {
	for i := range size {
		put(byte(n >> (8 * i)))
	}
}
