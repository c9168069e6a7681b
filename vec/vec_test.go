package vec

import (
	"math"
	"math/big"
	"math/rand"
	"slices"
	"testing"

	"shelterbelt/api"
)

const most = 1 << 20 // what a coordinate may be, either way

// filled is a vector of n coordinates that are all x.
func filled(n int, x int32) []int32 {
	v := make([]int32, n)
	for i := range v {
		v[i] = x
	}
	return v
}

// with is a copy of v whose coordinate at a place is x.
func with(v []int32, at int, x int32) []int32 {
	c := slices.Clone(v)
	c[at] = x
	return c
}

// edges are coordinates of all kinds, those that may not be among them.
func edges() []int32 {
	return []int32{0, 1, -1, 2, -2, 46340, 46341, -46341, 65535, 65536, most - 1, most, most + 1, -most + 1, -most, -most - 1, 1 << 30, -1 << 30, math.MaxInt32, math.MaxInt32 - 1, math.MinInt32, math.MinInt32 + 1}
}

// drawn is a vector of n coordinates from -within to within, some of them at the edges.
func drawn(r *rand.Rand, n int, within int32) []int32 {
	v := make([]int32, n)
	for i := range v {
		switch r.Intn(6) {
		case 0:
			v[i] = within
		case 1:
			v[i] = -within
		case 2:
			v[i] = int32(r.Intn(3) - 1)
		default:
			v[i] = int32(r.Int63n(2*int64(within)+1) - int64(within))
		}
	}
	return v
}

// pairs are two vectors each, of like and unlike lengths, of all kinds of coordinates.
func pairs() [][2][]int32 {
	l := [][2][]int32{{nil, nil}, {nil, {}}, {{}, nil}, {{}, {}}, {nil, {1}}, {{7}, nil}, {{}, {3, 4}}, {{3, 4}, {}}, {{1, 2}, {3, 4}}, {{1, 2, 3}, {4, 5}}, {{4, 5}, {1, 2, 3}}}
	for _, x := range edges() {
		for _, y := range edges() {
			l = append(l, [2][]int32{{x}, {y}}, [2][]int32{{x, y}, {y, x, 5}}, [2][]int32{{5, x, y}, {-6, x}})
		}
	}
	for _, x := range []int32{most, -most, math.MaxInt32, math.MinInt32} {
		for _, y := range []int32{most, -most, math.MaxInt32, math.MinInt32} {
			l = append(l, [2][]int32{filled(1024, x), filled(1024, y)}, [2][]int32{filled(5, x), filled(4, y)}, [2][]int32{filled(3, x), filled(1025, y)})
		}
	}
	r := rand.New(rand.NewSource(3))
	for range 400 {
		within := []int32{2, 1000, most, math.MaxInt32}[r.Intn(4)]
		l = append(l, [2][]int32{drawn(r, r.Intn(20), within), drawn(r, r.Intn(20), within)})
	}
	return l
}

// round is a whole number's rest modulo 2^64, as int64.
func round(n *big.Int) int64 {
	m := new(big.Int).Lsh(big.NewInt(1), 64)
	return int64(new(big.Int).Mod(n, m).Uint64())
}

// summed is the sum of what two coordinates make, without bounds, by the places that both have.
func summed(a, b []int32, of func(x, y *big.Int) *big.Int) *big.Int {
	sum := new(big.Int)
	for i := 0; i < len(a) && i < len(b); i++ {
		sum.Add(sum, of(big.NewInt(int64(a[i])), big.NewInt(int64(b[i]))))
	}
	return sum
}

func product(x, y *big.Int) *big.Int { return new(big.Int).Mul(x, y) }

func square(x, y *big.Int) *big.Int {
	d := new(big.Int).Sub(x, y)
	return d.Mul(d, d)
}

// P3.1

func TestCheckTellsWhatIsWrongFirst(t *testing.T) {
	bad := filled(2, most+1)
	for _, x := range []struct {
		name string
		v    []int32
		dim  int
		want api.Errno
	}{
		{"ordinary", []int32{3, -4, 0}, 3, api.OK},
		{"one coordinate", []int32{5}, 1, api.OK},
		{"the greatest dimension", filled(1024, 7), 1024, api.OK},
		{"dimension 0, none", nil, 0, api.ErrRange},
		{"dimension 0, empty", []int32{}, 0, api.ErrRange},
		{"dimension 0, one", []int32{1}, 0, api.ErrRange},
		{"dimension below 0", nil, -1, api.ErrRange},
		{"dimension below 0, one", []int32{1}, -1, api.ErrRange},
		{"the least int", []int32{1}, math.MinInt, api.ErrRange},
		{"the greatest int", []int32{1}, math.MaxInt, api.ErrRange},
		{"2^32 + 1", []int32{1}, 1<<32 + 1, api.ErrRange},
		{"dimension 1025, so many", filled(1025, 0), 1025, api.ErrRange},
		{"dimension 1025, other ones", filled(3, 0), 1025, api.ErrRange},
		{"range ahead of dimension", []int32{1, 2}, 0, api.ErrRange},
		{"range ahead of coordinates", filled(1025, most+1), 1025, api.ErrRange},
		{"range ahead of both", bad, -3, api.ErrRange},
		{"none of one", nil, 1, api.ErrDim},
		{"empty of one", []int32{}, 1, api.ErrDim},
		{"none of 1024", nil, 1024, api.ErrDim},
		{"one too few", filled(2, 0), 3, api.ErrDim},
		{"one too many", filled(4, 0), 3, api.ErrDim},
		{"1023 of 1024", filled(1023, 0), 1024, api.ErrDim},
		{"1025 of 1024", filled(1025, 0), 1024, api.ErrDim},
		{"two of one", filled(2, 0), 1, api.ErrDim},
		{"too few ahead of coordinates", bad, 3, api.ErrDim},
		{"too many ahead of coordinates", bad, 1, api.ErrDim},
		{"too many, the bad one beyond", []int32{0, most + 1}, 1, api.ErrDim},
	} {
		if got := Check(x.v, x.dim); got != x.want {
			t.Errorf("%s: %d, not %d", x.name, got, x.want)
		}
	}
}

func TestCheckOfCoordinatesAtEachPlace(t *testing.T) {
	for _, dim := range []int{1, 2, 3, 8, 1023, 1024} {
		for _, x := range edges() {
			want := api.OK
			if x < -1048576 || x > 1048576 {
				want = api.ErrCoord
			}
			for _, at := range []int{0, dim / 2, dim - 1} {
				if got := Check(with(filled(dim, 9), at, x), dim); got != want {
					t.Errorf("%d at %d of %d: %d, not %d", x, at, dim, got, want)
				}
			}
		}
	}
}

func TestCheckOfEachDimension(t *testing.T) {
	for dim := -3; dim <= 1030; dim++ {
		for _, n := range []int{0, dim - 1, dim, dim + 1, 1, 1024} {
			want := api.OK
			switch {
			case dim < 1 || dim > 1024:
				want = api.ErrRange
			case n != dim:
				want = api.ErrDim
			}
			if got := Check(filled(max(n, 0), -most), dim); got != want {
				t.Fatalf("%d of dimension %d: %d, not %d", n, dim, got, want)
			}
		}
	}
}

func TestCheckLooksAtNoSpareRoom(t *testing.T) {
	if e := Check(filled(4, most+1)[:0:4], 1); e != api.ErrDim {
		t.Error(e)
	}
	if e := Check(with(filled(4, most+1), 0, 1)[:1:4], 1); e != api.OK {
		t.Error(e)
	}
}

// P3.2

func TestExamples(t *testing.T) {
	a, b := []int32{1, 2}, []int32{3, 4}
	if Dot(a, b) != 11 || Far(a, b) != 8 {
		t.Error(Dot(a, b), Far(a, b))
	}
	if l := Less(a, b); !slices.Equal(l, []int32{-2, -2}) {
		t.Error(l)
	}
	if Same(a, b) || !Same(a, []int32{1, 2}) || !slices.Equal(Clone(a), a) {
		t.Error("same, or clone")
	}
}

func TestSumsOfPlacesThatBothHave(t *testing.T) {
	for _, x := range []struct {
		a, b     []int32
		dot, far int64
	}{
		{nil, nil, 0, 0},
		{nil, []int32{4}, 0, 0},
		{[]int32{4}, []int32{}, 0, 0},
		{[]int32{1, 2, 3}, []int32{4, 5}, 14, 18},
		{[]int32{4, 5}, []int32{1, 2, 3}, 14, 18},
		{[]int32{-3}, []int32{5, 1 << 30}, -15, 64},
		{[]int32{math.MinInt32}, []int32{math.MinInt32}, 1 << 62, 0},
		{[]int32{math.MinInt32}, []int32{math.MaxInt32}, -1<<62 + 1<<31, -1<<33 + 1},
		{filled(2, math.MinInt32), filled(2, math.MinInt32), math.MinInt64, 0},
		{filled(4, math.MinInt32), filled(4, math.MinInt32), 0, 0},
		{filled(2, math.MinInt32), filled(3, 0), 0, math.MinInt64},
		{filled(4, math.MinInt32), filled(4, 0), 0, 0},
	} {
		if got := Dot(x.a, x.b); got != x.dot {
			t.Errorf("dot of %v and %v: %d, not %d", x.a, x.b, got, x.dot)
		}
		if got := Far(x.a, x.b); got != x.far {
			t.Errorf("far of %v and %v: %d, not %d", x.a, x.b, got, x.far)
		}
	}
}

func TestSumsGoRoundAtSixtyFourBits(t *testing.T) {
	gone := 0
	for _, p := range pairs() {
		a, b := p[0], p[1]
		dot, far := summed(a, b, product), summed(a, b, square)
		if !dot.IsInt64() || !far.IsInt64() {
			gone++
		}
		if got := Dot(a, b); got != round(dot) {
			t.Fatalf("dot of %v and %v: %d, not %d", a, b, got, round(dot))
		}
		if got := Far(a, b); got != round(far) {
			t.Fatalf("far of %v and %v: %d, not %d", a, b, got, round(far))
		}
	}
	if gone == 0 {
		t.Error("no sum went round")
	}
}

func TestLessByTheLowestBits(t *testing.T) {
	for _, x := range []struct{ a, b, want []int32 }{
		{[]int32{5, 1, 9}, []int32{2, 4}, []int32{3, -3}},
		{[]int32{2, 4}, []int32{5, 1, 9}, []int32{-3, 3}},
		{[]int32{math.MinInt32}, []int32{1}, []int32{math.MaxInt32}},
		{[]int32{math.MaxInt32}, []int32{-1}, []int32{math.MinInt32}},
		{[]int32{0}, []int32{math.MinInt32}, []int32{math.MinInt32}},
		{[]int32{math.MaxInt32}, []int32{math.MinInt32}, []int32{-1}},
		{[]int32{math.MinInt32}, []int32{math.MaxInt32}, []int32{1}},
		{[]int32{-most}, []int32{most}, []int32{-2 * most}},
		{nil, []int32{1}, nil},
		{[]int32{1}, nil, nil},
		{nil, nil, nil},
	} {
		if got := Less(x.a, x.b); !slices.Equal(got, x.want) {
			t.Errorf("%v less %v: %v, not %v", x.a, x.b, got, x.want)
		}
	}
	for _, p := range pairs() {
		a, b := p[0], p[1]
		got := Less(a, b)
		if len(got) != min(len(a), len(b)) {
			t.Fatalf("%v less %v: %d of them", a, b, len(got))
		}
		for i, d := range got {
			if uint32(d) != uint32(int64(a[i])-int64(b[i])) {
				t.Fatalf("%d less %d: %d", a[i], b[i], d)
			}
		}
	}
}

func TestSame(t *testing.T) {
	for _, x := range []struct {
		a, b []int32
		want bool
	}{
		{nil, nil, true},
		{nil, []int32{}, true},
		{[]int32{}, nil, true},
		{[]int32{}, []int32{}, true},
		{nil, []int32{0}, false},
		{[]int32{0}, nil, false},
		{[]int32{0}, []int32{0}, true},
		{[]int32{1, 2}, []int32{1}, false},
		{[]int32{1}, []int32{1, 2}, false},
		{[]int32{1, 0}, []int32{1}, false},
		{[]int32{1}, []int32{1, 0}, false},
		{[]int32{1, 2}, []int32{2, 1}, false},
		{[]int32{math.MinInt32}, []int32{math.MinInt32}, true},
		{[]int32{math.MinInt32}, []int32{math.MaxInt32}, false},
		{[]int32{math.MinInt32}, []int32{0}, false},
	} {
		if got := Same(x.a, x.b); got != x.want {
			t.Errorf("%v and %v: %v", x.a, x.b, got)
		}
	}
	for _, n := range []int{1, 2, 7, 1024, 1025} {
		v := drawn(rand.New(rand.NewSource(int64(n))), n, math.MaxInt32)
		if !Same(v, slices.Clone(v)) {
			t.Errorf("%d of them aren't the same", n)
		}
		for i := range v {
			if Same(v, with(v, i, v[i]^1)) || Same(with(v, i, v[i]^math.MinInt32), v) {
				t.Fatalf("the same, but for place %d of %d", i, n)
			}
		}
	}
}

func TestCloneOfEachLength(t *testing.T) {
	if len(Clone(nil)) != 0 || len(Clone([]int32{})) != 0 {
		t.Error("not empty")
	}
	for _, n := range []int{1, 2, 3, 1024, 1025, 5000} {
		v := drawn(rand.New(rand.NewSource(int64(n))), n, math.MaxInt32)
		if !slices.Equal(Clone(v), v) {
			t.Errorf("%d of them aren't the same", n)
		}
	}
}

func TestAnswersAreNewMemory(t *testing.T) {
	a, b := []int32{5, 6, 7}, []int32{0, 0}
	c, d := Clone(a), Less(a, b)
	e := Less(a, filled(3, 0))
	for _, l := range [][]int32{c, d, e} {
		l[0] = 99
		// Spare room is memory, too: what is put behind one answer is seen nowhere else.
		_ = append(l, 98)
	}
	if !slices.Equal(a, []int32{5, 6, 7}) || !slices.Equal(b, []int32{0, 0}) {
		t.Error("an answer shares memory with an argument")
	}
	if f := Clone(a); !slices.Equal(f, a) || !slices.Equal(c, []int32{99, 6, 7}) {
		t.Error("two clones share memory")
	}
	if f := Less(a, b); !slices.Equal(f, []int32{5, 6}) || !slices.Equal(d, []int32{99, 6}) {
		t.Error("two differences share memory")
	}
}

func TestArgumentsStayAsTheyAre(t *testing.T) {
	room, more := []int32{1, 2, 3, 4, 5}, []int32{6, 7, 8, 9}
	a, b := room[:2], more[:3]
	Check(a, 2)
	Check(b, 2)
	Dot(a, b)
	Far(a, b)
	Less(a, b)
	Less(b, a)
	Same(a, b)
	Clone(a)
	if !slices.Equal(room, []int32{1, 2, 3, 4, 5}) || !slices.Equal(more, []int32{6, 7, 8, 9}) {
		t.Error(room, more)
	}
}

// P3.3

func TestSumsOfVectorsThatMayBeDoNotGoRound(t *testing.T) {
	r := rand.New(rand.NewSource(33))
	for range 300 {
		dim := []int{1, 2, 3, 100, 1023, 1024}[r.Intn(6)]
		a, b := drawn(r, dim, most), drawn(r, dim, most)
		if Check(a, dim) != api.OK || Check(b, dim) != api.OK {
			t.Fatal("drawn vectors may not be")
		}
		dot, far := Dot(a, b), Far(a, b)
		if dot < -1<<50 || dot > 1<<50 || far < 0 || far > 1<<52 {
			t.Fatalf("dot %d, far %d", dot, far)
		}
		if summed(a, b, product).Cmp(big.NewInt(dot)) != 0 || summed(a, b, square).Cmp(big.NewInt(far)) != 0 {
			t.Fatalf("dot %d, far %d went round", dot, far)
		}
		if d := Less(a, b); Dot(d, d) != far {
			t.Fatalf("far %d, but %d of the difference", far, Dot(d, d))
		}
		if (far == 0) != Same(a, b) || Far(b, a) != far || Dot(b, a) != dot {
			t.Fatalf("far %d, the same: %v", far, Same(a, b))
		}
	}
}

func TestSumsAtTheirBounds(t *testing.T) {
	high, low := filled(1024, most), filled(1024, -most)
	if Dot(high, high) != 1<<50 || Dot(low, low) != 1<<50 || Dot(high, low) != -1<<50 || Dot(low, high) != -1<<50 {
		t.Error(Dot(high, high), Dot(low, low), Dot(high, low), Dot(low, high))
	}
	if Far(high, low) != 1<<52 || Far(low, high) != 1<<52 {
		t.Error(Far(high, low), Far(low, high))
	}
}

func TestFarIsNoneJustOfTheSame(t *testing.T) {
	for _, dim := range []int{1, 2, 1024} {
		for _, x := range []int32{0, 1, most, -most} {
			v := filled(dim, x)
			if Far(v, slices.Clone(v)) != 0 || Far(v, v) != 0 {
				t.Errorf("%d of %d: far from itself", dim, x)
			}
			for at := range dim {
				by := int32(1)
				if x > 0 {
					by = -1
				}
				if Far(v, with(v, at, x+by)) != 1 || Far(with(v, at, x+by), v) != 1 {
					t.Fatalf("%d of %d: one off at %d isn't 1 far", dim, x, at)
				}
			}
		}
	}
}
