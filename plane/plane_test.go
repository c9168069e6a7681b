package plane

import (
	"math"
	"math/big"
	"math/rand"
	"slices"
	"sync"
	"testing"

	"shelterbelt/api"
)

const (
	mostCoord  = 1048576 // what a vector's coordinate may be, either way
	mostNormal = 2097152 // what a plane's may be, either way
	mostOffset = 9007199254740992
	mostDim    = 1024
)

// filled is a list of n coordinates that are all c.
func filled(n int, c int32) []int32 {
	return slices.Repeat([]int32{c}, n)
}

// with is a copy of a list whose coordinate at a place is c.
func with(v []int32, at int, c int32) []int32 {
	l := slices.Clone(v)
	l[at] = c
	return l
}

// of is a plane of an offset and of coordinates.
func of(offset int64, normal ...int32) api.Plane {
	return api.Plane{Normal: normal, Offset: offset}
}

// drawn is a list of n coordinates from -within to within, some of them at the edges.
func drawn(r *rand.Rand, n int, within int32) []int32 {
	v := make([]int32, n)
	for i := range v {
		switch r.Intn(6) {
		case 0:
			v[i] = within
		case 1:
			v[i] = -within
		case 2:
			v[i] = int32(r.Intn(3) - 1)
		default:
			v[i] = int32(r.Int63n(2*int64(within)+1) - int64(within))
		}
	}
	return v
}

// badDims are dimensions that may not be.
func badDims() []int {
	return []int{0, -1, -2, -1024, -1025, 1025, 1026, 2048, 1 << 20, 1 << 31, 1 << 32, 1<<32 + 1, 1<<32 + 1024, -1 << 32, -1<<32 + 1, math.MaxInt, math.MaxInt - 1, math.MinInt, math.MinInt + 1}
}

// within are coordinates of planes that may be.
func within() []int32 {
	return []int32{0, 1, -1, 2, 65535, -65537, mostCoord, mostCoord + 1, -mostCoord, -mostCoord - 1, mostNormal - 1, mostNormal, -mostNormal + 1, -mostNormal}
}

// beyond are coordinates of planes that may not be.
func beyond() []int32 {
	return []int32{mostNormal + 1, mostNormal + 2, -mostNormal - 1, -mostNormal - 2, 1 << 22, -1 << 22, 1 << 30, -1 << 30, math.MaxInt32, math.MaxInt32 - 1, math.MinInt32, math.MinInt32 + 1}
}

// offsets are those that may be, and offsetsBeyond those that may not.
func offsets() []int64 {
	return []int64{0, 1, -1, 1 << 32, -1 << 32, 1<<52 + 1, -1<<52 - 1, mostOffset - 1, mostOffset, -mostOffset + 1, -mostOffset}
}

func offsetsBeyond() []int64 {
	return []int64{mostOffset + 1, mostOffset + 2, -mostOffset - 1, -mostOffset - 2, 1 << 54, -1 << 54, 1 << 62, -1 << 62, math.MaxInt64, math.MaxInt64 - 1, math.MinInt64, math.MinInt64 + 1}
}

// wrong is what is wrong first with a plane, of a dimension, by the chapter's words.
func wrong(p api.Plane, dim int) api.Errno {
	switch {
	case dim < 1 || dim > mostDim:
		return api.ErrRange
	case len(p.Normal) != dim:
		return api.ErrDim
	case slices.ContainsFunc(p.Normal, func(c int32) bool { return c < -mostNormal || c > mostNormal }):
		return api.ErrCoord
	case p.Offset < -mostOffset || p.Offset > mostOffset:
		return api.ErrRange
	}
	return api.OK
}

// summed is the sum of products by the places that both have, without bounds.
func summed(a, b []int32) *big.Int {
	sum := new(big.Int)
	for i := 0; i < len(a) && i < len(b); i++ {
		sum.Add(sum, new(big.Int).Mul(big.NewInt(int64(a[i])), big.NewInt(int64(b[i]))))
	}
	return sum
}

// round is a whole number's rest modulo 2^64, as int64.
func round(n *big.Int) int64 {
	m := new(big.Int).Lsh(big.NewInt(1), 64)
	return int64(new(big.Int).Mod(n, m).Uint64())
}

// parted is a plane between two vectors by the chapter's words, and its offset without bounds.
func parted(a, b []int32) (api.Plane, *big.Int) {
	var n []int32
	for i := 0; i < len(a) && i < len(b); i++ {
		n = append(n, int32(uint32(int64(a[i])-int64(b[i]))))
	}
	sum := new(big.Int).Add(summed(n, a), summed(n, b))
	return api.Plane{Normal: n, Offset: round(sum)}, sum
}

// margin is one by the chapter's words, without bounds.
func margin(p api.Plane, v []int32) *big.Int {
	sum := summed(p.Normal, v)
	sum.Add(sum, sum)
	return sum.Sub(sum, big.NewInt(p.Offset))
}

// far is a sum of squares of differences, which goes round for no vectors that may be.
func far(a, b []int32) int64 {
	var sum int64
	for i := 0; i < len(a) && i < len(b); i++ {
		d := int64(a[i]) - int64(b[i])
		sum += d * d
	}
	return sum
}

// alike: number by number, by the library's own means.
func alike(a, b api.Plane) bool {
	return a.Offset == b.Offset && slices.Equal(a.Normal, b.Normal)
}

// P11.1: Check

func TestCheckOfEachDimension(t *testing.T) {
	for dim := -3; dim <= 1030; dim++ {
		for _, n := range []int{0, dim - 1, dim, dim + 1, 1, 1024, 1025} {
			p := of(-7, filled(max(n, 0), -mostNormal)...)
			if got, want := Check(p, dim), wrong(p, dim); got != want {
				t.Fatalf("%d coordinates of dimension %d: %d, not %d", n, dim, got, want)
			}
		}
	}
}

func TestCheckOfDimensionsThatMayNotBe(t *testing.T) {
	for _, dim := range badDims() {
		for _, n := range []int{0, 1, 2, 1024, 1025, 2048} {
			for _, c := range []int32{0, mostNormal + 1} {
				for _, o := range []int64{0, mostOffset + 1} {
					if e := Check(of(o, filled(n, c)...), dim); e != api.ErrRange {
						t.Error(dim, n, c, o, e)
					}
				}
			}
		}
	}
}

func TestCheckOfTooFewAndTooMany(t *testing.T) {
	for _, dim := range []int{1, 2, 3, 8, 1023, 1024} {
		for i, n := range [][]int32{nil, {}, filled(dim-1, 1), filled(dim+1, 1), filled(2*dim, 1), filled(dim, 1)[:0], filled(dim+1, 1)[:dim-1]} {
			for _, o := range []int64{0, mostOffset, mostOffset + 1, math.MinInt64} {
				if e := Check(of(o, n...), dim); e != api.ErrDim {
					t.Error(dim, i, o, e)
				}
			}
		}
		if e := Check(of(3, filled(dim, 1)...), dim); e != api.OK {
			t.Error(dim, e)
		}
	}
	if e := Check(api.Plane{}, 1); e != api.ErrDim {
		t.Error(e)
	}
}

func TestCheckOfCoordinatesAtEachPlace(t *testing.T) {
	for _, dim := range []int{1, 2, 3, 4, 1023, 1024} {
		for _, at := range []int{0, dim / 2, dim - 1} {
			for _, c := range within() {
				if e := Check(of(5, with(filled(dim, 9), at, c)...), dim); e != api.OK {
					t.Error(dim, at, c, e)
				}
			}
			for _, c := range beyond() {
				if e := Check(of(5, with(filled(dim, 9), at, c)...), dim); e != api.ErrCoord {
					t.Error(dim, at, c, e)
				}
			}
		}
	}
}

func TestCheckOfOneCoordinateAmongMany(t *testing.T) {
	for at := range 1024 {
		if e := Check(of(0, with(filled(1024, mostNormal), at, mostNormal+1)...), 1024); e != api.ErrCoord {
			t.Fatal(at, e)
		}
		if e := Check(of(0, with(filled(1024, -mostNormal), at, -mostNormal-1)...), 1024); e != api.ErrCoord {
			t.Fatal(at, e)
		}
	}
}

func TestCheckOfOffsets(t *testing.T) {
	for _, dim := range []int{1, 2, 1024} {
		for _, c := range []int32{0, mostNormal, -mostNormal} {
			for _, o := range offsets() {
				if e := Check(of(o, filled(dim, c)...), dim); e != api.OK {
					t.Error(dim, c, o, e)
				}
			}
			for _, o := range offsetsBeyond() {
				if e := Check(of(o, filled(dim, c)...), dim); e != api.ErrRange {
					t.Error(dim, c, o, e)
				}
			}
		}
	}
}

// Planes that are wrong in any choice of ways: what the chapter names first is told.
func TestCheckTellsWhatIsWrongFirst(t *testing.T) {
	for _, dim := range []int{-1, 0, 1, 2, 3, 1024, 1025} {
		for _, n := range []int{0, 1, 2, 3, 1024, 1025} {
			for _, c := range append(within(), beyond()...) {
				for _, o := range append(offsets(), offsetsBeyond()...) {
					normal := filled(n, 4)
					if n > 0 {
						normal[n-1] = c
					}
					p := of(o, normal...)
					if got, want := Check(p, dim), wrong(p, dim); got != want {
						t.Fatalf("%d of %d coordinates, offset %d, of dimension %d: %d, not %d", c, n, o, dim, got, want)
					}
				}
			}
		}
	}
	if Check(of(math.MinInt64, mostNormal+1, 0), 2) != api.ErrCoord || Check(of(math.MaxInt64, mostNormal+1), 2) != api.ErrDim || Check(of(math.MaxInt64, mostNormal+1), 0) != api.ErrRange {
		t.Error("of what is wrong in all ways")
	}
}

func TestCheckLooksAtNoSpareRoom(t *testing.T) {
	if e := Check(of(0, filled(4, mostNormal+1)[:0:4]...), 1); e != api.ErrDim {
		t.Error(e)
	}
	if e := Check(of(0, with(filled(4, mostNormal+1), 0, 1)[:1:4]...), 1); e != api.OK {
		t.Error(e)
	}
}

// P11.1: Between

func TestExample(t *testing.T) {
	p := Between([]int32{3, 0}, []int32{1, 0})
	if !alike(p, of(8, 2, 0)) || Margin(p, []int32{3, 0}) != 4 || Margin(p, []int32{1, 0}) != -4 {
		t.Error(p, Margin(p, []int32{3, 0}), Margin(p, []int32{1, 0}))
	}
	if Check(p, 2) != api.OK || !Side(p, []int32{3, 0}) || Side(p, []int32{1, 0}) || !Same(p, of(8, 2, 0)) || Same(p, Flat(2)) {
		t.Error(p)
	}
}

func TestBetweenByTheWords(t *testing.T) {
	for i, x := range []struct {
		a, b []int32
		want api.Plane
	}{
		{[]int32{5, -1}, []int32{1, 2}, of(21, 4, -3)},
		{[]int32{1, 2}, []int32{5, -1}, of(-21, -4, 3)},
		{[]int32{9}, []int32{0}, of(81, 9)},
		{[]int32{0}, []int32{9}, of(-81, -9)},
		{[]int32{4}, []int32{4}, of(0, 0)},
		{[]int32{7, -8, 9}, []int32{7, -8, 9}, of(0, 0, 0, 0)},
		{nil, nil, of(0)},
		{[]int32{}, nil, of(0)},
		{nil, []int32{3}, of(0)},
		{[]int32{3, 4}, []int32{}, of(0)},
		{[]int32{3, 4}, []int32{1}, of(8, 2)},
		{[]int32{3}, []int32{1, 100, 200}, of(8, 2)},
		{[]int32{mostCoord}, []int32{-mostCoord}, of(0, mostNormal)},
		{[]int32{-mostCoord}, []int32{mostCoord}, of(0, -mostNormal)},
		{[]int32{mostCoord}, []int32{0}, of(1<<40, mostCoord)},
		{[]int32{0}, []int32{mostCoord}, of(-1<<40, -mostCoord)},
		{filled(1024, mostCoord), filled(1024, -mostCoord), of(0, filled(1024, mostNormal)...)},
		{filled(1024, -mostCoord), filled(1024, mostCoord), of(0, filled(1024, -mostNormal)...)},
		{filled(1024, mostCoord), filled(1024, 0), of(1<<50, filled(1024, mostCoord)...)},
		{filled(1024, 0), filled(1024, -mostCoord), of(-1<<50, filled(1024, mostCoord)...)},
		{filled(1024, mostCoord), filled(1024, mostCoord), of(0, filled(1024, 0)...)},
		{[]int32{math.MaxInt32}, []int32{math.MinInt32}, of(1, -1)},
		{[]int32{math.MinInt32}, []int32{math.MaxInt32}, of(-1, 1)},
		{[]int32{math.MinInt32}, []int32{0}, of(1<<62, math.MinInt32)},
		{[]int32{0}, []int32{math.MinInt32}, of(1<<62, math.MinInt32)},
		{filled(2, math.MinInt32), filled(2, 0), of(math.MinInt64, filled(2, math.MinInt32)...)},
		{filled(4, math.MinInt32), filled(4, 0), of(0, filled(4, math.MinInt32)...)},
	} {
		if got := Between(x.a, x.b); !alike(got, x.want) {
			t.Error(i, got, "and not", x.want)
		}
	}
}

// Unlike dimensions, and numbers that go round, among all kinds of vectors.
func TestBetweenOfDrawnVectors(t *testing.T) {
	r := rand.New(rand.NewSource(11))
	gone := 0
	for range 3000 {
		reach := []int32{2, 1000, mostCoord, math.MaxInt32}[r.Intn(4)]
		a, b := drawn(r, r.Intn(12), reach), drawn(r, r.Intn(12), reach)
		if r.Intn(3) == 0 {
			b = drawn(r, len(a), reach)
		}
		want, sum := parted(a, b)
		if !sum.IsInt64() {
			gone++
		}
		if got := Between(a, b); !alike(got, want) {
			t.Fatalf("between %v and %v: %v, and not %v", a, b, got, want)
		}
	}
	if gone == 0 {
		t.Error("no offset went round")
	}
}

func TestBetweenOfTheGreatestAndLeastNumbers(t *testing.T) {
	edges := []int32{0, 1, -1, mostCoord, -mostCoord, 1 << 30, -1 << 30, math.MaxInt32, math.MaxInt32 - 1, math.MinInt32, math.MinInt32 + 1}
	for _, x := range edges {
		for _, y := range edges {
			for _, n := range []int{1, 2, 3, 1024, 1025} {
				a, b := filled(n, x), filled(n, y)
				want, _ := parted(a, b)
				if got := Between(a, b); !alike(got, want) {
					t.Fatalf("between %d and %d, %d times: %d, %d, and not %d, %d", x, y, n, got.Normal[0], got.Offset, want.Normal[0], want.Offset)
				}
			}
		}
	}
}

func TestBetweenLooksAtNoSpareRoom(t *testing.T) {
	a, b := []int32{3, 50, 60}, []int32{1, 70, 80}
	if p := Between(a[:1], b[:1]); !alike(p, of(8, 2)) {
		t.Error(p)
	}
}

// P11.1: Flat

func TestFlatOfEachDimension(t *testing.T) {
	for dim := -3; dim <= 1030; dim++ {
		n := dim
		if dim < 0 || dim > 1024 {
			n = 0
		}
		if p := Flat(dim); !alike(p, of(0, filled(n, 0)...)) {
			t.Fatal(dim, len(p.Normal), p.Offset)
		}
	}
	for _, dim := range badDims() {
		if p := Flat(dim); len(p.Normal) != 0 || p.Offset != 0 {
			t.Error(dim, len(p.Normal), p.Offset)
		}
	}
}

func TestFlatPlanesMayBe(t *testing.T) {
	for dim := 1; dim <= 1024; dim++ {
		if e := Check(Flat(dim), dim); e != api.OK {
			t.Fatal(dim, e)
		}
	}
}

// P11.1: Margin

func TestMarginByTheWords(t *testing.T) {
	for i, x := range []struct {
		p    api.Plane
		v    []int32
		want int64
	}{
		{of(21, 4, -3), []int32{5, -1}, 25},
		{of(21, 4, -3), []int32{1, 2}, -25},
		{of(21, 4, -3), []int32{3, 1}, -3},
		{of(21, 4, -3), []int32{6}, 27},
		{of(21, 4, -3), []int32{6, 0, 1000}, 27},
		{of(21, 4, -3), []int32{6, -1, math.MaxInt32}, 33},
		{of(21, 4, -3), nil, -21},
		{of(21, 4, -3), []int32{}, -21},
		{of(-21), []int32{5, 6}, 21},
		{api.Plane{}, []int32{5, 6}, 0},
		{api.Plane{}, nil, 0},
		{of(0, 1), []int32{7}, 14},
		{of(0, -1), []int32{7}, -14},
		{of(mostOffset, filled(1024, mostNormal)...), filled(1024, mostCoord), 1<<52 - 1<<53},
		{of(-mostOffset, filled(1024, mostNormal)...), filled(1024, mostCoord), 1<<52 + 1<<53},
		{of(math.MinInt64), nil, math.MinInt64},
		{of(math.MaxInt64), nil, -math.MaxInt64},
		{of(0, math.MinInt32), []int32{math.MinInt32}, math.MinInt64},
		{of(0, math.MinInt32, math.MinInt32), filled(2, math.MinInt32), 0},
		{of(1, math.MinInt32), []int32{math.MinInt32}, math.MaxInt64},
		{of(math.MinInt64, math.MinInt32), []int32{math.MinInt32}, 0},
		{of(math.MinInt64, 1), []int32{1}, math.MinInt64 + 2},
		{of(math.MaxInt64, 1), []int32{-1}, math.MaxInt64},
	} {
		if got := Margin(x.p, x.v); got != x.want {
			t.Error(i, got, "and not", x.want)
		}
	}
}

// Shorter and longer vectors, and numbers that go round, among all kinds of planes.
func TestMarginOfDrawnPlanes(t *testing.T) {
	r := rand.New(rand.NewSource(12))
	gone := 0
	for range 4000 {
		reach := []int32{2, 1000, mostNormal, math.MaxInt32}[r.Intn(4)]
		o := append(offsets(), offsetsBeyond()...)
		p := of(o[r.Intn(len(o))], drawn(r, r.Intn(9), reach)...)
		v := drawn(r, r.Intn(9), reach)
		want := margin(p, v)
		if !want.IsInt64() {
			gone++
		}
		if got := Margin(p, v); got != round(want) {
			t.Fatalf("margin of %v at %v: %d, and not %d", v, p, got, round(want))
		}
		if got := Side(p, v); got != (round(want) >= 0) {
			t.Fatalf("side of %v at %v: %v", v, p, got)
		}
	}
	if gone == 0 {
		t.Error("no margin went round")
	}
}

func TestMarginOfEachLength(t *testing.T) {
	r := rand.New(rand.NewSource(13))
	for _, dim := range []int{0, 1, 2, 3, 1023, 1024, 1025} {
		p := of(12345, drawn(r, dim, mostNormal)...)
		for _, n := range []int{0, 1, 2, 3, 5, 1022, 1023, 1024, 1025, 3000} {
			v := drawn(r, n, mostCoord)
			if got, want := Margin(p, v), round(margin(p, v)); got != want {
				t.Error(dim, n, got, want)
			}
		}
	}
}

func TestMarginLooksAtNoSpareRoom(t *testing.T) {
	room, more := []int32{2, 5, 6}, []int32{3, 7, 8}
	if m := Margin(of(1, room[:1]...), more); m != 11 {
		t.Error(m)
	}
	if m := Margin(of(1, room...), more[:1]); m != 11 {
		t.Error(m)
	}
}

// P11.1: Side

func TestSideOfJustNoMargin(t *testing.T) {
	r := rand.New(rand.NewSource(14))
	for _, dim := range []int{0, 1, 2, 5, 1024} {
		for range 20 {
			n, v := drawn(r, dim, mostNormal), drawn(r, dim, mostCoord)
			none := 2 * summed(n, v).Int64()
			for by := int64(-3); by <= 3; by++ {
				p := of(none-by, n...)
				if Margin(p, v) != by || Side(p, v) != (by >= 0) {
					t.Error(dim, by, Margin(p, v), Side(p, v))
				}
			}
		}
	}
}

func TestSideOfGreatMargins(t *testing.T) {
	for _, x := range []struct {
		p    api.Plane
		v    []int32
		want bool
	}{
		{of(math.MaxInt64), nil, false},
		{of(math.MinInt64), nil, false},
		{of(math.MinInt64 + 1), nil, true},
		{of(1, math.MinInt32), []int32{math.MinInt32}, true},
		{of(0, math.MinInt32), []int32{math.MinInt32}, false},
		{of(1<<32, 1), []int32{0}, false},
		{of(-1<<32, 1), []int32{0}, true},
		{of(1<<31, 1), []int32{0}, false},
		{of(-1<<31, 1), []int32{0}, true},
		{api.Plane{}, nil, true},
		{api.Plane{}, []int32{-5}, true},
	} {
		if got := Side(x.p, x.v); got != x.want {
			t.Error(x.p, x.v, got)
		}
	}
}

// P11.1: Same

func TestSame(t *testing.T) {
	for i, x := range []struct {
		a, b api.Plane
		want bool
	}{
		{api.Plane{}, api.Plane{}, true},
		{api.Plane{}, api.Plane{Normal: []int32{}}, true},
		{api.Plane{Normal: []int32{}, Offset: 7}, api.Plane{Offset: 7}, true},
		{of(0), of(1), false},
		{of(0), of(0, 0), false},
		{of(0, 0), of(0, 0, 0), false},
		{of(3, 1, 2), of(3, 1, 2), true},
		{of(3, 1, 2), of(3, 2, 1), false},
		{of(3, 1, 2), of(3, 1), false},
		{of(3, 1, 2), of(3, 1, 2, 0), false},
		{of(3, 1, 2), of(-3, -1, -2), false},
		{of(3, 1, 2), of(6, 2, 4), false},
		{of(3, 1, 2), of(3), false},
		{of(3, 1), of(1, 3), false},
		{of(math.MinInt64, math.MinInt32), of(math.MinInt64, math.MinInt32), true},
		{of(math.MaxInt64, math.MinInt32), of(math.MinInt64, math.MinInt32), false},
		{of(0, math.MaxInt32), of(0, math.MinInt32), false},
	} {
		if Same(x.a, x.b) != x.want || Same(x.b, x.a) != x.want {
			t.Error(i, x.a, x.b)
		}
	}
}

func TestSameButForOneCoordinate(t *testing.T) {
	for _, n := range []int{1, 2, 3, 7, 1024, 1025} {
		p := of(mostOffset, drawn(rand.New(rand.NewSource(int64(n))), n, math.MaxInt32)...)
		if !Same(p, of(mostOffset, slices.Clone(p.Normal)...)) || !Same(p, p) {
			t.Error(n, "aren't the same")
		}
		for at := range n {
			for _, c := range []int32{p.Normal[at] ^ 1, p.Normal[at] ^ math.MinInt32, p.Normal[at] + 1<<16} {
				q := of(mostOffset, with(p.Normal, at, c)...)
				if Same(p, q) || Same(q, p) {
					t.Fatal(n, "are the same, but for place", at)
				}
			}
		}
	}
}

func TestSameButForTheOffset(t *testing.T) {
	all := append(offsets(), offsetsBeyond()...)
	for _, n := range []int{0, 1, 3, 1024} {
		for i, x := range all {
			for j, y := range all {
				if got := Same(of(x, filled(n, 6)...), of(y, filled(n, 6)...)); got != (i == j) {
					t.Fatal(n, x, y, got)
				}
			}
		}
		for bit := range 64 {
			if Same(of(5, filled(n, 6)...), of(5^int64(uint64(1)<<bit), filled(n, 6)...)) {
				t.Fatal(n, "the same, but for bit", bit)
			}
		}
	}
}

func TestSameLooksAtNoSpareRoom(t *testing.T) {
	a, b := []int32{1, 2, 3}, []int32{1, 4, 5}
	if !Same(of(9, a[:1]...), of(9, b[:1]...)) {
		t.Error("not the same")
	}
}

// P11.2

// holds two vectors that may be, and others, to what the chapter promises of the plane between them; no number of it goes round.
func holds(t *testing.T, a, b []int32, others ...[]int32) {
	t.Helper()
	p := Between(a, b)
	if e := Check(p, len(a)); e != api.OK {
		t.Fatalf("between %v and %v: %d", a, b, e)
	}
	if _, sum := parted(a, b); !sum.IsInt64() || sum.Int64() != p.Offset {
		t.Fatalf("between %v and %v: the offset %d, and not %d", a, b, p.Offset, sum)
	}
	apart := far(a, b)
	if Margin(p, a) != apart || Margin(p, b) != -apart {
		t.Fatalf("between %v and %v, %d apart: margins %d and %d", a, b, apart, Margin(p, a), Margin(p, b))
	}
	if !Side(p, a) || Side(p, b) != (apart == 0) {
		t.Fatalf("between %v and %v: sides %v and %v", a, b, Side(p, a), Side(p, b))
	}
	flat := Flat(len(a))
	if Same(p, flat) != (apart == 0) {
		t.Fatalf("between %v and %v: flat, or not", a, b)
	}
	for _, v := range append(others, a, b) {
		m := Margin(p, v)
		if m != far(b, v)-far(a, v) || margin(p, v).Cmp(big.NewInt(m)) != 0 {
			t.Fatalf("between %v and %v: the margin of %v is %d", a, b, v, m)
		}
		if Side(p, v) != (far(a, v) <= far(b, v)) {
			t.Fatalf("between %v and %v: the side of %v is %v", a, b, v, Side(p, v))
		}
		if Margin(flat, v) != 0 || !Side(flat, v) {
			t.Fatalf("at the flat plane: the margin of %v is %d", v, Margin(flat, v))
		}
	}
}

func TestPlanesBetweenSmallVectors(t *testing.T) {
	for a := range int32(125) {
		for b := range int32(125) {
			at := func(n int32) []int32 { return []int32{n%5 - 2, n/5%5 - 2, n/25 - 2} }
			holds(t, at(a), at(b), at((a+7*b)%125), at(124-a), []int32{1, 0, -1})
			if a < 5 && b < 5 {
				holds(t, []int32{a}, []int32{b}, []int32{0}, []int32{2}, []int32{3}, []int32{a + b})
			}
		}
	}
}

func TestPlanesBetweenDrawnVectors(t *testing.T) {
	r := rand.New(rand.NewSource(15))
	for range 400 {
		dim := []int{1, 2, 3, 17, 1023, 1024}[r.Intn(6)]
		reach := []int32{1, 50, mostCoord}[r.Intn(3)]
		a, b := drawn(r, dim, reach), drawn(r, dim, reach)
		if r.Intn(4) == 0 {
			b = with(a, r.Intn(dim), int32(r.Intn(3)))
		}
		holds(t, a, b, drawn(r, dim, reach), drawn(r, dim, mostCoord), filled(dim, mostCoord), filled(dim, -mostCoord), filled(dim, 0))
	}
}

func TestPlanesBetweenVectorsAtTheEdges(t *testing.T) {
	edges := []int32{mostCoord, mostCoord - 1, -mostCoord, -mostCoord + 1, 0, 1, -1}
	for _, dim := range []int{1, 2, 1024} {
		var l [][]int32
		for _, c := range edges {
			l = append(l, filled(dim, c), with(filled(dim, c), dim-1, -c), with(filled(dim, c), 0, 0))
		}
		for _, a := range l {
			for _, b := range l {
				holds(t, a, b, l[:4]...)
			}
		}
	}
}

// Vectors that are the same, and each choice of one coordinate by which two are apart.
func TestPlanesBetweenVectorsThatAreAlmostTheSame(t *testing.T) {
	for _, dim := range []int{1, 2, 9, 1024} {
		for _, c := range []int32{0, 1, mostCoord - 1, -mostCoord} {
			v := filled(dim, c)
			holds(t, v, slices.Clone(v), filled(dim, 3))
			holds(t, v, v, filled(dim, -mostCoord))
			for at := 0; at < dim; at += max(1, dim/16) {
				holds(t, v, with(v, at, c+1), filled(dim, -3))
				holds(t, with(v, at, c+1), v, filled(dim, -3))
			}
		}
	}
}

// Each vector is on the side of the one to which it is nearer, turned over where the two change places, but for the middle.
func TestPlanesBetweenVectorsThatChangePlaces(t *testing.T) {
	r := rand.New(rand.NewSource(16))
	for range 500 {
		dim := 1 + r.Intn(6)
		a, b, v := drawn(r, dim, 4), drawn(r, dim, 4), drawn(r, dim, 4)
		p, q := Between(a, b), Between(b, a)
		if Margin(p, v) != -Margin(q, v) || p.Offset != -q.Offset {
			t.Fatal(a, b, v)
		}
		if (Side(p, v) && Side(q, v)) != (far(a, v) == far(b, v)) {
			t.Fatal(a, b, v)
		}
	}
}

// Rule 3: what is handed in is neither changed nor kept, and answers are new memory

// spoil writes into a list, and behind its end.
func spoil(v []int32) {
	for i := range v {
		v[i] = -77
	}
	_ = append(v, -78, -79)
}

func TestAnswersAreNewMemory(t *testing.T) {
	for _, n := range []int{1, 2, 3, 1024} {
		r := rand.New(rand.NewSource(int64(n)))
		a, b := drawn(r, n, mostCoord), drawn(r, n, mostCoord)
		ownA, ownB := slices.Clone(a), slices.Clone(b)
		want, _ := parted(a, b)
		first, second := Between(a, b), Between(a, b)
		spoil(first.Normal)
		if !alike(second, want) || !alike(Between(a, b), want) || !slices.Equal(a, ownA) || !slices.Equal(b, ownB) {
			t.Error(n, "planes between share memory")
		}
		longer := Between(append(slices.Clone(a), 5), b)
		spoil(longer.Normal)
		if !slices.Equal(b, ownB) || !alike(second, want) {
			t.Error(n, "a plane between vectors of unlike dimensions shares memory")
		}
		flat, other := Flat(n), Flat(n)
		spoil(flat.Normal)
		if !alike(other, of(0, filled(n, 0)...)) || !alike(Flat(n), other) {
			t.Error(n, "flat planes share memory")
		}
	}
	for _, dim := range []int{0, -1, 1025} {
		spoil(Flat(dim).Normal)
		if p := Flat(dim); !alike(p, of(0)) {
			t.Error(dim, p)
		}
	}
}

func TestPlanesKeepNothingThatIsHandedIn(t *testing.T) {
	a, b := []int32{3, 0}, []int32{1, 0}
	p := Between(a, b)
	spoil(a)
	spoil(b)
	if !alike(p, of(8, 2, 0)) {
		t.Error(p)
	}
}

func TestNoCallChangesWhatIsHandedIn(t *testing.T) {
	room, more, own := []int32{1, 2, 3, 4, 5}, []int32{6, 7, 8, 9}, []int32{10, 11, 12, 13}
	a, b := room[:2], more[:3]
	p := of(99, own[:2]...)
	for _, dim := range []int{0, 1, 2, 3, 1025} {
		Check(p, dim)
	}
	Between(a, b)
	Between(b, a)
	Between(a, a)
	for _, v := range [][]int32{a, b, nil, own[:2]} {
		Margin(p, v)
		Side(p, v)
	}
	Same(p, p)
	Same(p, of(99, a...))
	Same(of(99, b...), p)
	if !slices.Equal(room, []int32{1, 2, 3, 4, 5}) || !slices.Equal(more, []int32{6, 7, 8, 9}) || !slices.Equal(own, []int32{10, 11, 12, 13}) {
		t.Error(room, more, own)
	}
	if p.Offset != 99 || len(p.Normal) != 2 {
		t.Error(p)
	}
}

// Rule 4: who asks side by side is answered as one who asks alone.
func TestAskedSideBySide(t *testing.T) {
	r := rand.New(rand.NewSource(17))
	a, b, v := drawn(r, 64, mostCoord), drawn(r, 64, mostCoord), drawn(r, 64, mostCoord)
	want, _ := parted(a, b)
	far := round(margin(want, v))
	wrongs := make([]int, 8)
	var ended sync.WaitGroup
	for w := range wrongs {
		ended.Go(func() {
			for range 200 {
				p := Between(a, b)
				if !alike(p, want) || Margin(p, v) != far || Margin(want, v) != far || Check(want, 64) != api.OK || !Same(p, want) || Same(Flat(64), want) {
					wrongs[w]++
				}
				spoil(p.Normal)
			}
		})
	}
	ended.Wait()
	if !slices.Equal(wrongs, make([]int, 8)) {
		t.Error(wrongs)
	}
}
