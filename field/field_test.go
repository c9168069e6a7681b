package field

import (
	"math"
	"math/big"
	"slices"
	"strings"
	"testing"
)

var (
	wrongSizes = []int{0, -1, -8, 9, 10, 64, 1 << 40, math.MaxInt, math.MinInt}
	numbers    = []uint64{0, 1, 2, 127, 128, 129, 255, 256, 257, 258, 511, 32767, 32768, 65535, 65536,
		1<<24 - 1, 1 << 24, 1<<31 - 1, 1 << 31, 1<<32 - 1, 1 << 32, 1<<40 - 1, 1<<47 + 5, 1 << 48, 1<<55 - 1, 1 << 55, 1<<56 - 1, 1 << 56,
		1<<63 - 1, 1 << 63, 1<<63 + 1, math.MaxUint64 - 1, math.MaxUint64, 0x0123456789abcdef, 0xfedcba9876543210}
)

// power is 256 to the power of a size, worked out in numbers that don't go round.
func power(size int) *big.Int { return new(big.Int).Lsh(big.NewInt(1), uint(8*size)) }

// P1.1: Put.

func TestPutExamples(t *testing.T) {
	for _, x := range []struct {
		n    uint64
		size int
		want string
	}{
		{258, 2, "\x02\x01"},
		{0, 1, "\x00"},
		{255, 1, "\xff"},
		{256, 1, "\x00"},
		{256, 2, "\x00\x01"},
		{0x0123456789abcdef, 8, "\xef\xcd\xab\x89\x67\x45\x23\x01"},
		{0x0123456789abcdef, 3, "\xef\xcd\xab"},
		{math.MaxUint64, 8, strings.Repeat("\xff", 8)},
	} {
		if s := Put(x.n, x.size); s != x.want {
			t.Errorf("Put(%d, %d) = %q, want %q", x.n, x.size, s, x.want)
		}
	}
}

func TestPutLowestByteFirstAndTheRestLost(t *testing.T) {
	for _, n := range numbers {
		for size := 1; size <= 8; size++ {
			var want []byte
			left := new(big.Int).SetUint64(n)
			for range size {
				low := new(big.Int)
				left.DivMod(left, big.NewInt(256), low)
				want = append(want, byte(low.Uint64()))
			}
			if s := Put(n, size); s != string(want) {
				t.Errorf("Put(%d, %d) = %q, want %q", n, size, s, want)
			}
		}
	}
}

func TestPutWrongSizes(t *testing.T) {
	for _, size := range wrongSizes {
		for _, n := range numbers {
			if s := Put(n, size); s != "" {
				t.Errorf("Put(%d, %d) = %q, want the empty text", n, size, s)
			}
		}
	}
}

// P1.1: Get.

func TestGetIsPutBack(t *testing.T) {
	for _, n := range numbers {
		for size := 1; size <= 8; size++ {
			want := new(big.Int).Mod(new(big.Int).SetUint64(n), power(size)).Uint64()
			for _, ahead := range []string{"", "\xff", "\x01\x02\x03"} {
				for _, behind := range []string{"", "\xff", "\x00\x80"} {
					if got, ok := Get(ahead+Put(n, size)+behind, len(ahead), size); got != want || !ok {
						t.Errorf("%d of %d bytes at %d: %d %v, want %d", n, size, len(ahead), got, ok, want)
					}
				}
			}
		}
	}
}

func TestGetWhereTheTextEnds(t *testing.T) {
	s := "\x01\x02\x03\x04\x05\x06\x07\x08\x09\x0a"
	for size := 1; size <= 8; size++ {
		for at := -12; at <= len(s)+12; at++ {
			want := at >= 0 && at+size <= len(s)
			n, ok := Get(s, at, size)
			if ok != want {
				t.Errorf("Get of 10 bytes at %d, size %d: %v", at, size, ok)
			}
			if !ok && n != 0 {
				t.Errorf("Get of 10 bytes at %d, size %d: %d beside false", at, size, n)
			}
			if ok && byte(n) != s[at] {
				t.Errorf("Get of 10 bytes at %d, size %d: %d", at, size, n)
			}
		}
	}
}

func TestGetWrong(t *testing.T) {
	s := strings.Repeat("\xff", 80)
	for _, size := range wrongSizes {
		for _, at := range []int{0, 1, 79, 80, -1} {
			if n, ok := Get(s, at, size); n != 0 || ok {
				t.Errorf("Get at %d, size %d: %d %v", at, size, n, ok)
			}
		}
	}
	for size := 1; size <= 8; size++ {
		for _, at := range []int{-1, -8, math.MinInt, math.MinInt + 1, 80, 81, math.MaxInt, math.MaxInt - 7} {
			if n, ok := Get(s, at, size); n != 0 || ok {
				t.Errorf("Get at %d, size %d: %d %v", at, size, n, ok)
			}
		}
		for _, at := range []int{0, 1, -1} {
			if n, ok := Get("", at, size); n != 0 || ok {
				t.Errorf("Get of nothing at %d, size %d: %d %v", at, size, n, ok)
			}
		}
	}
}

// P1.1: Signed.

func TestSignedExamples(t *testing.T) {
	n, ok := Get("\xfe\xff", 0, 2)
	if !ok || Signed(n, 2) != -2 {
		t.Error(n, ok, Signed(n, 2))
	}
	for _, x := range []struct {
		n    uint64
		size int
		want int64
	}{
		{127, 1, 127}, {128, 1, -128}, {255, 1, -1}, {256, 1, 0}, {0x17f, 1, 127}, {0x180, 1, -128},
		{1<<31 - 1, 4, 1<<31 - 1}, {1 << 31, 4, -1 << 31}, {1<<32 + 1, 4, 1},
		{1<<63 - 1, 8, 1<<63 - 1}, {1 << 63, 8, -1 << 63}, {math.MaxUint64, 8, -1}, {math.MaxUint64, 3, -1},
	} {
		if got := Signed(x.n, x.size); got != x.want {
			t.Errorf("Signed(%d, %d) = %d, want %d", x.n, x.size, got, x.want)
		}
	}
}

func TestSignedByItsDefinition(t *testing.T) {
	for _, n := range numbers {
		for size := 1; size <= 8; size++ {
			want := new(big.Int).Mod(new(big.Int).SetUint64(n), power(size))
			if want.Bit(8*size-1) == 1 {
				want.Sub(want, power(size))
			}
			if got := Signed(n, size); big.NewInt(got).Cmp(want) != 0 {
				t.Errorf("Signed(%d, %d) = %d, want %v", n, size, got, want)
			}
		}
	}
}

func TestSignedWrongSizes(t *testing.T) {
	for _, size := range wrongSizes {
		for _, n := range numbers {
			if got := Signed(n, size); got != 0 {
				t.Errorf("Signed(%d, %d) = %d, want 0", n, size, got)
			}
		}
	}
}

// P1.1: Fits.

func TestFitsJustAtEachPower(t *testing.T) {
	for size := 1; size <= 7; size++ {
		end := int(power(size).Int64())
		for _, x := range []struct {
			n    int
			want bool
		}{{0, true}, {1, true}, {end - 1, true}, {end, false}, {end + 1, false}, {2 * end, false}, {math.MaxInt, false}, {-1, false}, {-end, false}, {math.MinInt, false}} {
			if Fits(x.n, size) != x.want {
				t.Errorf("Fits(%d, %d) = %v", x.n, size, !x.want)
			}
		}
	}
}

func TestFitsGreatAndSmallSizes(t *testing.T) {
	for _, size := range []int{8, 9, 64, math.MaxInt} {
		for _, n := range []int{0, 1, 255, 256, 1 << 56, math.MaxInt} {
			if !Fits(n, size) {
				t.Errorf("Fits(%d, %d) = false", n, size)
			}
		}
		for _, n := range []int{-1, -256, math.MinInt} {
			if Fits(n, size) {
				t.Errorf("Fits(%d, %d) = true", n, size)
			}
		}
	}
	for _, size := range []int{0, -1, -8, math.MinInt} {
		if !Fits(0, size) {
			t.Errorf("Fits(0, %d) = false", size)
		}
		for _, n := range []int{1, 255, math.MaxInt, -1, math.MinInt} {
			if Fits(n, size) {
				t.Errorf("Fits(%d, %d) = true", n, size)
			}
		}
	}
}

// P1.2: Row, Column.

func TestRow(t *testing.T) {
	for _, x := range []struct {
		l    []int32
		want string
	}{
		{nil, ""},
		{[]int32{}, ""},
		{[]int32{0}, "\x00\x00\x00\x00"},
		{[]int32{258}, "\x02\x01\x00\x00"},
		{[]int32{-2}, "\xfe\xff\xff\xff"},
		{[]int32{math.MinInt32, math.MaxInt32}, "\x00\x00\x00\x80\xff\xff\xff\x7f"},
		{[]int32{1, 2, 1}, "\x01\x00\x00\x00\x02\x00\x00\x00\x01\x00\x00\x00"},
	} {
		if s := Row(x.l...); s != x.want {
			t.Errorf("Row(%d) = %q, want %q", x.l, s, x.want)
		}
	}
}

func TestRowLeavesWhatItIsGiven(t *testing.T) {
	whole := []int32{1, -2, 3, 4}
	Row(whole[:2]...)
	if !slices.Equal(whole, []int32{1, -2, 3, 4}) {
		t.Error(whole)
	}
}

func TestColumnIsRowBack(t *testing.T) {
	var l []int32
	for _, c := range []int32{0, 1, -1, 127, 128, -128, -129, 1 << 20, -1 << 20, 1 << 21, math.MaxInt32, math.MinInt32, math.MinInt32 + 1} {
		l = append(l, c)
		s := Row(l...)
		got, ok := Column(s)
		if !slices.Equal(got, l) || !ok {
			t.Errorf("Column of Row(%d): %d %v", l, got, ok)
		}
		if Row(got...) != s {
			t.Errorf("Row of Column(%q): %q", s, Row(got...))
		}
	}
}

func TestColumnByLengths(t *testing.T) {
	s := "\x01\x00\x00\x00\xfe\xff\xff\xff\x00\x00\x00\x80\x05"
	want := []int32{1, -2, math.MinInt32}
	for n := range len(s) + 1 {
		l, ok := Column(s[:n])
		if n%4 == 0 && (!ok || !slices.Equal(l, want[:n/4])) {
			t.Errorf("Column of %d bytes: %d %v", n, l, ok)
		}
		if n%4 != 0 && (ok || len(l) != 0) {
			t.Errorf("Column of %d bytes: %d %v", n, l, ok)
		}
	}
}

func TestColumnAnswersNewMemory(t *testing.T) {
	s := Row(1, 2)
	a, _ := Column(s)
	b, _ := Column(s)
	a[0] = 9
	if !slices.Equal(b, []int32{1, 2}) || s != Row(1, 2) {
		t.Error(b, s)
	}
}

// P1.3: Cut.

func TestCut(t *testing.T) {
	for _, x := range []struct {
		s     string
		sizes []int
		want  []string
		ok    bool
	}{
		{"abcdef", []int{1, 2, 3}, []string{"a", "bc", "def"}, true},
		{"abcdef", []int{3, 2, 1}, []string{"abc", "de", "f"}, true},
		{"abcdef", []int{6}, []string{"abcdef"}, true},
		{"abcdef", []int{0, 6, 0}, []string{"", "abcdef", ""}, true},
		{"a\x00\xff", []int{1, 1, 1}, []string{"a", "\x00", "\xff"}, true},
		{"é", []int{1, 1}, []string{"\xc3", "\xa9"}, true},
		{"", nil, nil, true},
		{"", []int{}, nil, true},
		{"", []int{0}, []string{""}, true},
		{"", []int{0, 0}, []string{"", ""}, true},
		{"", []int{1}, nil, false},
		{"", []int{-1}, nil, false},
		{"", []int{1, -1}, nil, false},
		{"", []int{-1, 1}, nil, false},
		{"abc", nil, nil, false},
		{"abc", []int{0}, nil, false},
		{"abc", []int{2}, nil, false},
		{"abc", []int{1, 1}, nil, false},
		{"abc", []int{4}, nil, false},
		{"abc", []int{3, 1}, nil, false},
		{"abc", []int{2, 2}, nil, false},
		{"abc", []int{-1, 4}, nil, false},
		{"abc", []int{4, -1}, nil, false},
		{"abc", []int{1, -1, 3}, nil, false},
		{"abc", []int{3, -1}, nil, false},
		{"abc", []int{math.MinInt}, nil, false},
		{"abc", []int{math.MinInt, 3}, nil, false},
		{"abc", []int{math.MaxInt}, nil, false},
	} {
		l, ok := Cut(x.s, x.sizes...)
		if !slices.Equal(l, x.want) || ok != x.ok {
			t.Errorf("Cut(%q, %d) = %q %v, want %q %v", x.s, x.sizes, l, ok, x.want, x.ok)
		}
	}
}

func TestCutSumsThatGoRound(t *testing.T) {
	for _, sizes := range [][]int{
		{math.MaxInt, math.MaxInt, 5},
		{math.MaxInt, math.MaxInt, 2},
		{3, math.MaxInt, math.MaxInt, 2},
		{1, math.MaxInt, math.MaxInt, 4},
		{math.MinInt, math.MinInt, 3},
	} {
		if l, ok := Cut("abc", sizes...); len(l) != 0 || ok {
			t.Errorf("Cut of 3 bytes in %d: %q %v", sizes, l, ok)
		}
		if l, ok := Cut("", sizes...); len(l) != 0 || ok {
			t.Errorf("Cut of nothing in %d: %q %v", sizes, l, ok)
		}
	}
}

func TestCutAllSizesOfThree(t *testing.T) {
	s := "shelter"
	for a := -1; a <= 8; a++ {
		for b := -1; b <= 8; b++ {
			for c := -1; c <= 8; c++ {
				l, ok := Cut(s, a, b, c)
				if want := a >= 0 && b >= 0 && c >= 0 && a+b+c == len(s); ok != want {
					t.Errorf("Cut in %d %d %d: %v", a, b, c, ok)
				}
				if ok && !slices.Equal(l, []string{s[:a], s[a : a+b], s[a+b:]}) {
					t.Errorf("Cut in %d %d %d: %q", a, b, c, l)
				}
				if !ok && len(l) != 0 {
					t.Errorf("Cut in %d %d %d: %q beside false", a, b, c, l)
				}
			}
		}
	}
}

func TestCutLeavesWhatItIsGiven(t *testing.T) {
	whole := []int{1, 2, 7, 8}
	Cut("abc", whole[:2]...)
	if !slices.Equal(whole, []int{1, 2, 7, 8}) {
		t.Error(whole)
	}
}
