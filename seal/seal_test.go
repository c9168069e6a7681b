package seal

import (
	"hash/crc32"
	"math"
	"math/rand"
	"strings"
	"testing"
)

// bit is one of a text's row of bits, of each byte the lowest one first.
func bit(s string, i int) bool { return s[i/8]>>(i%8)&1 == 1 }

// turned is a text of which some bits are turned over.
func turned(s string, bits ...int) string {
	b := []byte(s)
	for _, i := range bits {
		b[i/8] ^= 1 << (i % 8)
	}
	return string(b)
}

// joined goes by the chapter's words, bit by bit, on a row of 32 bools, the lowest first.
func joined(a uint32, s string) uint32 {
	var row [32]bool
	for i := range row {
		row[i] = a>>i&1 == 0
	}
	for i := range 8 * len(s) {
		unlike := bit(s, i) != row[0]
		copy(row[:], row[1:])
		row[31] = false
		for j := range row {
			if unlike && uint32(0xEDB88320)>>j&1 == 1 {
				row[j] = !row[j]
			}
		}
	}
	var sum uint32
	for i, on := range row {
		if !on {
			sum |= 1 << i
		}
	}
	return sum
}

// texts are of all lengths up to 70 and some beyond, of all kinds of bytes.
func texts() []string {
	l := []string{"", "123456789", "a", "\x00", "\xff", "\x01", "\x80", "\x0f", "\xf0", "abc", "\x00\x00\x00\x00", "\xff\xff\xff\xff", "é", "a\x00b"}
	r := rand.New(rand.NewSource(2))
	for n := range 71 {
		l = append(l, anyText(r, n), strings.Repeat("\x00", n), strings.Repeat("\xff", n))
	}
	for b := range 256 {
		l = append(l, string([]byte{byte(b)}))
	}
	return append(l, anyText(r, 255), anyText(r, 256), anyText(r, 1000), anyText(r, 4097))
}

func anyText(r *rand.Rand, n int) string {
	b := make([]byte, n)
	r.Read(b)
	return string(b)
}

// anySums are such as texts have, and such as nobody asked of a text.
var anySums = []uint32{0, 1, 2, 0x80000000, 0xEDB88320, 0xCBF43926, 0x12345678, 0xDEADBEEF, math.MaxUint32 - 1, math.MaxUint32}

// P2.1: Sum.

func TestSumExamples(t *testing.T) {
	for _, x := range []struct {
		s    string
		want uint32
	}{
		{"123456789", 0xCBF43926},
		{"", 0},
		{"\x00", 0xD202EF8D},
		{"\xff", 0xFF000000},
		{"\x00\x00\x00\x00", 0x2144DF1C},
		{"\xff\xff\xff\xff", 0xFFFFFFFF},
		{"a", 0xE8B7BE43},
		{"abc", 0x352441C2},
	} {
		if got := Sum(x.s); got != x.want {
			t.Errorf("Sum(%q) = %08X, want %08X", x.s, got, x.want)
		}
	}
}

func TestSumBitByBit(t *testing.T) {
	for _, s := range texts() {
		if got, want := Sum(s), joined(0, s); got != want {
			t.Errorf("Sum(%q) = %08X, want %08X", s, got, want)
		}
		if got, want := Sum(s), crc32.ChecksumIEEE([]byte(s)); got != want {
			t.Errorf("Sum(%q) = %08X, want %08X", s, got, want)
		}
	}
}

func TestSumOfTwoBytes(t *testing.T) {
	for n := range 1 << 16 {
		b := []byte{byte(n), byte(n >> 8)}
		if got, want := Sum(string(b)), crc32.ChecksumIEEE(b); got != want {
			t.Fatalf("Sum(%q) = %08X, want %08X", b, got, want)
		}
	}
}

// P2.1: Join.

func TestJoinIsTheSumOfBoth(t *testing.T) {
	for _, s := range texts() {
		for _, at := range []int{0, 1, 2, 3, 4, 5, 8, len(s) / 2, len(s) - 1, len(s)} {
			if at < 0 || at > len(s) {
				continue
			}
			if got, want := Join(Sum(s[:at]), s[at:]), Sum(s); got != want {
				t.Errorf("the sum of %q, joined at %d: %08X, want %08X", s, at, got, want)
			}
		}
	}
}

func TestJoinInManyPieces(t *testing.T) {
	s := strings.Repeat("\x00a\xff7", 25)
	var sum uint32
	for i := range len(s) {
		sum = Join(sum, s[i:i+1])
		if want := Sum(s[:i+1]); sum != want {
			t.Errorf("after %d pieces %08X, want %08X", i+1, sum, want)
		}
	}
}

func TestJoinOfAnyNumber(t *testing.T) {
	for _, a := range anySums {
		for _, s := range texts() {
			if got, want := Join(a, s), joined(a, s); got != want {
				t.Errorf("Join(%08X, %q) = %08X, want %08X", a, s, got, want)
			}
			if got, want := Join(a, s), crc32.Update(a, crc32.IEEETable, []byte(s)); got != want {
				t.Errorf("Join(%08X, %q) = %08X, want %08X", a, s, got, want)
			}
		}
	}
}

func TestJoinOfNothing(t *testing.T) {
	for _, a := range anySums {
		if got := Join(a, ""); got != a {
			t.Errorf("Join(%08X, nothing) = %08X", a, got)
		}
	}
}

// P2.1: Seal.

func TestSealExamples(t *testing.T) {
	for _, x := range []struct{ s, want string }{
		{"123456789", "123456789\x26\x39\xf4\xcb"},
		{"", "\x00\x00\x00\x00"},
		{"\x00", "\x00\x8d\xef\x02\xd2"},
		{"\xff", "\xff\x00\x00\x00\xff"},
		{"abc", "abc\xc2\x41\x24\x35"},
	} {
		if got := Seal(x.s); got != x.want {
			t.Errorf("Seal(%q) = %q, want %q", x.s, got, x.want)
		}
	}
}

func TestSealIsTheTextAndItsSum(t *testing.T) {
	for _, s := range texts() {
		n := joined(0, s)
		want := s + string([]byte{byte(n), byte(n >> 8), byte(n >> 16), byte(n >> 24)})
		if got := Seal(s); got != want {
			t.Errorf("Seal(%q) = %q, want %q", s, got, want)
		}
	}
}

// P2.1: Open.

func TestOpenIsSealBack(t *testing.T) {
	for _, s := range texts() {
		if got, ok := Open(Seal(s)); got != s || !ok {
			t.Errorf("Open of sealed %q: %q %v", s, got, ok)
		}
		twice := Seal(Seal(s))
		if got, ok := Open(twice); got != Seal(s) || !ok {
			t.Errorf("Open of twice sealed %q: %q %v", s, got, ok)
		}
	}
}

func refuse(t *testing.T, what, s string) {
	t.Helper()
	if got, ok := Open(s); got != "" || ok {
		t.Errorf("Open(%q), %s: %q %v", s, what, got, ok)
	}
}

func TestOpenOfFewerThanFourBytes(t *testing.T) {
	for _, s := range []string{"", "\x00", "\x00\x00", "\x00\x00\x00", "a", "ab", "abc", "\xff\xff\xff"} {
		refuse(t, "too short for a sum", s)
	}
}

func TestOpenOfFourBytes(t *testing.T) {
	if got, ok := Open("\x00\x00\x00\x00"); got != "" || !ok {
		t.Errorf("the sealed empty text: %q %v", got, ok)
	}
	for i := range 32 {
		refuse(t, "the sum isn't nothing's", turned("\x00\x00\x00\x00", i))
	}
	refuse(t, "the sum isn't nothing's", "\xff\xff\xff\xff")
}

func TestOpenOfWhatIsNotSealed(t *testing.T) {
	sealed := Seal("123456789")
	for n := range len(sealed) {
		refuse(t, "cut at its end", sealed[:n])
		refuse(t, "cut at its beginning", sealed[n+1:])
	}
	for b := range 256 {
		refuse(t, "one byte more behind", sealed+string([]byte{byte(b)}))
		refuse(t, "one byte more ahead", string([]byte{byte(b)})+sealed)
	}
	refuse(t, "the text alone", "123456789")
	refuse(t, "the sum's highest byte first", "123456789\xcb\xf4\x39\x26")
	refuse(t, "the sum ahead", "\x26\x39\xf4\xcb123456789")
	refuse(t, "the remainder, not turned over", "123456789\xd9\xc6\x0b\x34")
	refuse(t, "two bytes that changed places", "213456789\x26\x39\xf4\xcb")
	refuse(t, "all zero", strings.Repeat("\x00", 5))
}

func TestOpenJustOfTheTextsSum(t *testing.T) {
	for _, s := range texts() {
		for _, a := range anySums {
			other := s + string([]byte{byte(a), byte(a >> 8), byte(a >> 16), byte(a >> 24)})
			got, ok := Open(other)
			if want := a == joined(0, s); ok != want {
				t.Errorf("Open(%q) = %v", other, ok)
			}
			if !ok && got != "" {
				t.Errorf("Open(%q): %q beside false", other, got)
			}
		}
	}
}

// P2.2: bits within 32 on end.

// within tells which bits a pattern turns over from a place on.
func within(pattern uint32, from int) []int {
	var bits []int
	for i := range 32 {
		if pattern>>i&1 == 1 {
			bits = append(bits, from+i)
		}
	}
	return bits
}

func TestBitsWithin32AtEveryPlace(t *testing.T) {
	r := rand.New(rand.NewSource(22))
	for _, n := range []int{0, 1, 2, 3, 4, 5, 9, 40} {
		sealed := Seal(anyText(r, n))
		// The beginning, the seam of text and sum, and the end are among the places.
		for from := 0; from+32 <= 8*len(sealed); from++ {
			patterns := []uint32{1, 3, 0x80000001, 0x80000000, 0xFFFFFFFF, 0x7FFFFFFF, 0xAAAAAAAA, 0x55555555, 0xEDB88320, 0x04C11DB7, 0x82608EDB}
			for range 40 {
				patterns = append(patterns, 1+uint32(r.Int63n(math.MaxUint32)))
			}
			for _, pattern := range patterns {
				refuse(t, "bits within 32 turned over", turned(sealed, within(pattern, from)...))
			}
		}
	}
}

func TestBitsWithin16AllPatterns(t *testing.T) {
	sealed := Seal("12345")
	last := 8*len(sealed) - 16
	for _, from := range []int{0, 1, 7, 24, 31, 32, 33, 39, 40, last - 1, last} {
		for pattern := uint32(1); pattern < 1<<16; pattern += 2 {
			if got, ok := Open(turned(sealed, within(pattern, from)...)); got != "" || ok {
				t.Fatalf("pattern %04X at %d: %q %v", pattern, from, got, ok)
			}
		}
	}
}

// effects tells of each bit of a sealed text how far text and sum are from one another when it alone is turned over. What many bits do is what each does, laid over one another (TestEffectsAreLaidOverOneAnother), so that all choices can be held at once.
func effects(sealed string) []uint32 {
	l := make([]uint32, 8*len(sealed))
	for i := range l {
		l[i] = apart(turned(sealed, i))
	}
	return l
}

// apart is 0 just of a sealed text.
func apart(s string) uint32 {
	at := len(s) - 4
	told := uint32(s[at]) | uint32(s[at+1])<<8 | uint32(s[at+2])<<16 | uint32(s[at+3])<<24
	return Sum(s[:at]) ^ told
}

func TestEffectsAreLaidOverOneAnother(t *testing.T) {
	r := rand.New(rand.NewSource(23))
	sealed := Seal(anyText(r, 60))
	each := effects(sealed)
	for range 3000 {
		var want uint32
		bits := r.Perm(len(each))[:1+r.Intn(12)]
		for _, i := range bits {
			want ^= each[i]
		}
		s := turned(sealed, bits...)
		if got := apart(s); got != want {
			t.Fatalf("bits %d: %08X, want %08X", bits, got, want)
		}
		if _, ok := Open(s); ok != (want == 0) {
			t.Fatalf("bits %d: %v", bits, ok)
		}
	}
}

// TestBitsWithin32AllPatterns: of 32 effects none is made up of others, so that no choice of them comes to nothing.
func TestBitsWithin32AllPatterns(t *testing.T) {
	each := effects(Seal(strings.Repeat("q", 1000)))
	for from := 0; from+32 <= len(each); from++ {
		var base [32]uint32
		for i := range 32 {
			left := each[from+i]
			for high := 31; high >= 0 && left != 0; high-- {
				if left>>high&1 == 0 {
					continue
				}
				if base[high] == 0 {
					base[high] = left
					break
				}
				left ^= base[high]
			}
			if left == 0 {
				t.Fatalf("bits from %d on: some within 32 come to nothing", from)
			}
		}
	}
}

// P2.2: one, two, three bits.

func TestUpToThreeBitsOfAShortText(t *testing.T) {
	for _, text := range []string{"", "a", "123456789"} {
		sealed := Seal(text)
		n := 8 * len(sealed)
		for a := range n {
			refuse(t, "one bit turned over", turned(sealed, a))
			for b := range a {
				refuse(t, "two bits turned over", turned(sealed, a, b))
				for c := range b {
					refuse(t, "three bits turned over", turned(sealed, a, b, c))
				}
			}
		}
	}
}

func TestUpToThreeBitsOfALongText(t *testing.T) {
	r := rand.New(rand.NewSource(24))
	sealed := Seal(anyText(r, 996))
	n := 8 * len(sealed)
	for i := range n {
		refuse(t, "one bit turned over", turned(sealed, i))
	}
	for range 20000 {
		a, b, c := r.Intn(n), r.Intn(n), r.Intn(n)
		if a == b || b == c || a == c {
			continue
		}
		refuse(t, "two bits turned over", turned(sealed, a, b))
		refuse(t, "three bits turned over", turned(sealed, a, b, c))
	}
}

// TestAllUpToThreeBitsOf1000Bytes: no effect is nothing, no two are the same, and no two make up a third.
func TestAllUpToThreeBitsOf1000Bytes(t *testing.T) {
	each := effects(Seal(strings.Repeat("z", 1000)))
	known := make(map[uint32]bool, len(each))
	// Nearly all sums of two are told apart by few bits already: the map is asked of the rest alone.
	var maybe [1 << 20]bool
	for i, e := range each {
		if e == 0 || known[e] {
			t.Fatalf("bit %d: %08X", i, e)
		}
		known[e] = true
		maybe[e>>12] = true
	}
	for i, e := range each {
		for j, f := range each[:i] {
			if maybe[(e^f)>>12] && known[e^f] {
				t.Fatalf("bits %d and %d are a third's: %08X", i, j, e^f)
			}
		}
	}
}
