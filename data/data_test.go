package data

import (
	"iter"
	"math"
	"math/big"
	"math/rand"
	"slices"
	"sync"
	"testing"

	"shelterbelt/api"
)

const (
	mostCoord = 1048576 // what a coordinate may be, either way
	mostDim   = 1024
	mostItems = 1048576
)

// model is items by the chapter's words: vectors in the order in which they came.
type model struct {
	dim  int
	held [][]int32
}

// wrong is what is wrong first with a vector, of a dimension (chapter 3).
func wrong(v []int32, dim int) api.Errno {
	switch {
	case dim < 1 || dim > mostDim:
		return api.ErrRange
	case len(v) != dim:
		return api.ErrDim
	case slices.ContainsFunc(v, func(c int32) bool { return c < -mostCoord || c > mostCoord }):
		return api.ErrCoord
	}
	return api.OK
}

func (m *model) add(v []int32) (int, api.Errno) {
	if e := wrong(v, m.dim); e != api.OK {
		return 0, e
	}
	m.held = append(m.held, slices.Clone(v))
	return len(m.held) - 1, api.OK
}

func (m *model) at(id int) ([]int32, bool) {
	for i, v := range m.held {
		if i == id {
			return v, true
		}
	}
	return nil, false
}

// far is a sum of squares of unbounded numbers, modulo 2^64, by the places that both have.
func (m *model) far(id int, v []int32) int64 {
	item, _ := m.at(id)
	sum := new(big.Int)
	for i := 0; i < len(item) && i < len(v); i++ {
		d := big.NewInt(int64(item[i]) - int64(v[i]))
		sum.Add(sum, d.Mul(d, d))
	}
	round := new(big.Int).Lsh(big.NewInt(1), 64)
	return int64(sum.Mod(sum, round).Uint64())
}

// ids are those that there are, their neighbours, and some that are far away.
func (m *model) ids() []int {
	n := len(m.held)
	l := []int{-1, -2, -n, -n - 1, n, n + 1, 2*n + 2, 1 << 20, 1 << 31, 1 << 32, 1<<32 + 1, -1 << 32, math.MaxInt, math.MaxInt - 1, math.MinInt, math.MinInt + 1}
	for id := range n {
		l = append(l, id)
	}
	return slices.Compact(slices.Sorted(slices.Values(l)))
}

// pair is an id, and the item that was told with it.
type pair struct {
	id int
	v  []int32
}

func same(a, b pair) bool { return a.id == b.id && slices.Equal(a.v, b.v) }

// pairs are what All must tell.
func (m *model) pairs() []pair {
	var l []pair
	for id, v := range m.held {
		l = append(l, pair{id, v})
	}
	return l
}

// take tells at most so many of a range, and breaks off behind them; of a number below 0 all.
func take(all iter.Seq2[int, []int32], most int) []pair {
	var l []pair
	if most == 0 {
		return l
	}
	for id, v := range all {
		l = append(l, pair{id, v})
		if len(l) == most {
			break
		}
	}
	return l
}

// agree holds all that items can be asked against the model.
func agree(t *testing.T, x *Items, m *model, probes ...[]int32) {
	t.Helper()
	if x.Dim() != m.dim || x.Len() != len(m.held) {
		t.Fatalf("Dim %d, Len %d, and not %d, %d", x.Dim(), x.Len(), m.dim, len(m.held))
	}
	for _, id := range m.ids() {
		v, ok := x.At(id)
		if want, there := m.at(id); ok != there || !slices.Equal(v, want) {
			t.Fatalf("At(%d) of %d: %v, %v, and not %v", id, x.Len(), v, ok, want)
		}
		for _, p := range probes {
			if got, want := x.Far(id, p), m.far(id, p); got != want {
				t.Fatalf("Far(%d, %v) of %d: %d, and not %d", id, p, x.Len(), got, want)
			}
		}
	}
	if l := take(x.All(), -1); !slices.EqualFunc(l, m.pairs(), same) {
		t.Fatalf("All: %v, and not %v", l, m.pairs())
	}
}

// made are items of a list of vectors that all may be, added one by one.
func made(t *testing.T, dim int, l ...[]int32) (*Items, *model) {
	t.Helper()
	x, e := New(dim)
	if e != api.OK {
		t.Fatal(dim, e)
	}
	m := &model{dim: dim}
	for _, v := range l {
		put(t, x, m, v)
	}
	return x, m
}

// put adds a vector to items and to the model, and holds what they answer against each other.
func put(t *testing.T, x *Items, m *model, v []int32) {
	t.Helper()
	id, e := x.Add(v)
	if want, err := m.add(v); id != want || e != err {
		t.Fatalf("Add of %d coordinates, of dimension %d: %d, %d, and not %d, %d", len(v), m.dim, id, e, want, err)
	}
}

// filled is a vector of n coordinates that are all c.
func filled(n int, c int32) []int32 {
	return slices.Repeat([]int32{c}, n)
}

// with is a copy of a vector whose coordinate at a place is c.
func with(v []int32, at int, c int32) []int32 {
	l := slices.Clone(v)
	l[at] = c
	return l
}

// drawn is a vector of n coordinates that may be, some of them at the edges.
func drawn(r *rand.Rand, n int) []int32 {
	v := make([]int32, n)
	for i := range v {
		switch r.Intn(6) {
		case 0:
			v[i] = mostCoord
		case 1:
			v[i] = -mostCoord
		case 2:
			v[i] = int32(r.Intn(3) - 1)
		default:
			v[i] = int32(r.Intn(2*mostCoord+1) - mostCoord)
		}
	}
	return v
}

// badDims are dimensions that may not be.
func badDims() []int {
	return []int{0, -1, -2, -1024, -1025, 1025, 1026, 2048, 1 << 20, 1 << 31, 1 << 32, 1<<32 + 1, 1<<32 + 1024, -1 << 32, -1<<32 + 1, math.MaxInt, math.MinInt, math.MinInt + 1}
}

// beyond are coordinates that may not be.
func beyond() []int32 {
	return []int32{mostCoord + 1, -mostCoord - 1, 1 << 21, -1 << 21, 1 << 30, math.MaxInt32, math.MinInt32, math.MinInt32 + 1}
}

// within are coordinates that may be.
func within() []int32 {
	return []int32{0, 1, -1, 2, 65535, 65536, -65537, mostCoord, mostCoord - 1, -mostCoord, -mostCoord + 1}
}

// P10.1: New

func TestNewOfEachDimension(t *testing.T) {
	for dim := -3; dim <= 1030; dim++ {
		x, e := New(dim)
		if dim < 1 || dim > 1024 {
			if x != nil || e != api.ErrRange {
				t.Fatal(dim, x, e)
			}
			continue
		}
		if e != api.OK {
			t.Fatal(dim, e)
		}
		agree(t, x, &model{dim: dim}, nil, filled(dim, 3))
	}
}

func TestNewOfDimensionsThatMayNotBe(t *testing.T) {
	for _, dim := range badDims() {
		if x, e := New(dim); x != nil || e != api.ErrRange {
			t.Error(dim, x, e)
		}
	}
}

// P10.1: Add

func TestExample(t *testing.T) {
	x, m := made(t, 2)
	for id, v := range [][]int32{{1, 2}, {3, 4}} {
		if got, e := x.Add(v); got != id || e != api.OK {
			t.Error(v, got, e)
		}
		m.add(v)
	}
	agree(t, x, m, []int32{0, 0})
	if y, e := Of(2, []int32{1, 2}, []int32{3, 4}); e != api.OK {
		t.Error(e)
	} else {
		agree(t, y, m, []int32{0, 0})
	}
}

func TestAddOfTooFewAndTooMany(t *testing.T) {
	for _, dim := range []int{1, 2, 3, 8, 1023, 1024} {
		x, m := made(t, dim, filled(dim, 7))
		for _, v := range [][]int32{nil, {}, filled(dim-1, 1), filled(dim+1, 1), filled(2*dim, 1), filled(dim*3+5, 1), filled(dim, 1)[:0], filled(dim+1, 1)[:dim-1]} {
			if id, e := x.Add(v); id != 0 || e != api.ErrDim {
				t.Error(dim, len(v), id, e)
			}
			agree(t, x, m, v)
		}
		put(t, x, m, filled(dim, 2))
		put(t, x, m, filled(dim+2, 5)[:dim])
		agree(t, x, m)
	}
}

func TestAddOfCoordinatesAtEachPlace(t *testing.T) {
	for _, dim := range []int{1, 2, 3, 4, 1023, 1024} {
		for _, at := range []int{0, dim / 2, dim - 1} {
			x, m := made(t, dim, filled(dim, -9))
			for _, c := range within() {
				if id, e := x.Add(with(filled(dim, 5), at, c)); id != x.Len()-1 || e != api.OK {
					t.Error(dim, at, c, id, e)
				}
				m.add(with(filled(dim, 5), at, c))
			}
			for _, c := range beyond() {
				if id, e := x.Add(with(filled(dim, 5), at, c)); id != 0 || e != api.ErrCoord {
					t.Error(dim, at, c, id, e)
				}
			}
			agree(t, x, m)
		}
	}
}

func TestAddOfVectorsThatAreWrongInBothWays(t *testing.T) {
	for _, dim := range []int{2, 3, 1024} {
		x, m := made(t, dim)
		for _, c := range beyond() {
			for _, n := range []int{1, dim - 1, dim + 1} {
				if id, e := x.Add(filled(n, c)); id != 0 || e != api.ErrDim {
					t.Error(dim, n, c, id, e)
				}
			}
			if id, e := x.Add(with(filled(dim+1, 0), dim, c)); id != 0 || e != api.ErrDim {
				t.Error(dim, c, id, e)
			}
		}
		agree(t, x, m)
	}
}

// What is refused takes no id, and changes nothing.
func TestAddBehindOnesThatWereRefused(t *testing.T) {
	x, m := made(t, 2)
	for _, v := range [][]int32{{1}, {1, mostCoord + 1}, {1, 2}, nil, {5, 6, 7}, {3, 4}, {-mostCoord - 1, 0}, {-mostCoord - 1}, {5, 6}, {5, 6}} {
		put(t, x, m, v)
		agree(t, x, m, v, []int32{1, 1})
	}
	if x.Len() != 4 {
		t.Error(x.Len())
	}
}

func TestAddOfTheSame(t *testing.T) {
	v := []int32{mostCoord, 0, -mostCoord}
	x, m := made(t, 3)
	for id := range 20 {
		if got, e := x.Add(v); got != id || e != api.OK {
			t.Error(id, got, e)
		}
		m.add(v)
	}
	agree(t, x, m, v, []int32{0, 0, 0})
}

func TestAddOfDrawnVectors(t *testing.T) {
	r := rand.New(rand.NewSource(10))
	for _, dim := range []int{1, 2, 3, 7, 100, 1024} {
		x, m := made(t, dim)
		for range 40 {
			v := drawn(r, dim+r.Intn(2)*r.Intn(3))
			if len(v) > 0 && r.Intn(4) == 0 {
				v[r.Intn(len(v))] = beyond()[r.Intn(len(beyond()))]
			}
			put(t, x, m, v)
		}
		agree(t, x, m, drawn(r, dim), drawn(r, dim+1), drawn(r, dim-1))
	}
}

// All short rows of calls, of vectors that may be and that may not.
func TestAddOfShortRows(t *testing.T) {
	vs := [][]int32{nil, {0}, {mostCoord}, {-mostCoord - 1}, {0, 0}, {2, mostCoord + 1}}
	for _, dim := range []int{1, 2} {
		for row := range 6 * 6 * 6 * 6 {
			x, m := made(t, dim)
			for rest := row; rest > 0; rest /= 6 {
				put(t, x, m, vs[rest%6])
			}
			agree(t, x, m, []int32{3, 4})
		}
	}
}

// P10.1: Of

func TestOfNoVector(t *testing.T) {
	for _, dim := range []int{1, 2, 1023, 1024} {
		for _, l := range [][][]int32{nil, {}, make([][]int32, 0, 5)} {
			x, e := Of(dim, l...)
			if e != api.OK {
				t.Fatal(dim, e)
			}
			agree(t, x, &model{dim: dim}, filled(dim, 1))
		}
	}
}

func TestOfVectors(t *testing.T) {
	r := rand.New(rand.NewSource(101))
	for _, dim := range []int{1, 2, 5, 1024} {
		for _, n := range []int{1, 2, 3, 17, 60} {
			m := &model{dim: dim}
			for range n {
				m.add(drawn(r, dim))
			}
			x, e := Of(dim, m.held...)
			if e != api.OK {
				t.Fatal(dim, n, e)
			}
			agree(t, x, m, drawn(r, dim))
			put(t, x, m, drawn(r, dim))
			agree(t, x, m, drawn(r, dim))
		}
	}
}

func TestOfDimensionsThatMayNotBe(t *testing.T) {
	for _, dim := range badDims() {
		lists := [][][]int32{nil, {{1}}, {nil}, {{}}, {{mostCoord + 1}}, {{1, 2}, {3}}, {filled(1025, 0)}, {filled(1025, mostCoord+1), nil}}
		for i, l := range lists {
			if x, e := Of(dim, l...); x != nil || e != api.ErrRange {
				t.Error(dim, i, x, e)
			}
		}
	}
}

func TestOfVectorsThatMayNotBe(t *testing.T) {
	good, short, long, bad := []int32{1, 2}, []int32{1}, []int32{1, 2, 3}, []int32{1, mostCoord + 1}
	worse := []int32{math.MinInt32}
	for i, x := range []struct {
		l    [][]int32
		want api.Errno
	}{
		{[][]int32{short}, api.ErrDim},
		{[][]int32{nil}, api.ErrDim},
		{[][]int32{long}, api.ErrDim},
		{[][]int32{bad}, api.ErrCoord},
		{[][]int32{worse}, api.ErrDim},
		{[][]int32{short, good, good}, api.ErrDim},
		{[][]int32{bad, good, good}, api.ErrCoord},
		{[][]int32{good, short, good}, api.ErrDim},
		{[][]int32{good, bad, good}, api.ErrCoord},
		{[][]int32{good, good, {}}, api.ErrDim},
		{[][]int32{good, good, bad}, api.ErrCoord},
		{[][]int32{short, bad}, api.ErrDim},
		{[][]int32{bad, short}, api.ErrCoord},
		{[][]int32{good, bad, good, short, bad}, api.ErrCoord},
		{[][]int32{good, long, good, bad, short}, api.ErrDim},
		{[][]int32{good, worse, bad}, api.ErrDim},
		{[][]int32{bad, worse, good}, api.ErrCoord},
	} {
		if got, e := Of(2, x.l...); got != nil || e != x.want {
			t.Error(i, got, e, "and not", x.want)
		}
	}
}

// Each place of a long list at which the first wrong one may stand, with others behind it.
func TestOfVectorsWrongAtEachPlace(t *testing.T) {
	const n = 9
	for first := range n {
		for other := first; other < n; other++ {
			l := slices.Repeat([][]int32{{3, 4}}, n)
			l[other] = []int32{1}
			l[first] = []int32{0, -mostCoord - 1}
			if x, e := Of(2, l...); x != nil || e != api.ErrCoord {
				t.Error(first, other, x, e)
			}
			l[other] = []int32{0, -mostCoord - 1}
			l[first] = []int32{0, 0, 0}
			if x, e := Of(2, l...); x != nil || e != api.ErrDim {
				t.Error(first, other, x, e)
			}
		}
	}
}

// Items that were made by Of are added to as those by New, and know nothing of each other.
func TestItemsApart(t *testing.T) {
	l := [][]int32{{1}, {2}}
	a, e := Of(1, l...)
	b, f := Of(1, l...)
	c, g := New(1)
	if e != api.OK || f != api.OK || g != api.OK {
		t.Fatal(e, f, g)
	}
	first, second, third := &model{1, [][]int32{{1}, {2}}}, &model{1, [][]int32{{1}, {2}}}, &model{dim: 1}
	put(t, a, first, []int32{3})
	put(t, b, second, []int32{4})
	put(t, c, third, []int32{5})
	put(t, a, first, []int32{6})
	agree(t, a, first, []int32{9})
	agree(t, b, second, []int32{9})
	agree(t, c, third, []int32{9})
}

// P10.1: as many as there is room for

func TestAddOfAsManyAsThereIsRoomFor(t *testing.T) {
	x, _ := made(t, 1)
	for i := range mostItems {
		if id, e := x.Add([]int32{int32(i)}); id != i || e != api.OK {
			t.Fatal(i, id, e)
		}
	}
	for range 2 {
		full(t, x)
	}
	n := 0
	for id, v := range x.All() {
		if id != n || len(v) != 1 || v[0] != int32(n) {
			t.Fatal(n, id, v)
		}
		n++
	}
	if n != mostItems {
		t.Error(n)
	}
}

// full holds items of dimension 1, of which each is its id, to be full: nothing more is added, and nothing is changed by that.
func full(t *testing.T, x *Items) {
	t.Helper()
	for _, y := range []struct {
		v []int32
		e api.Errno
	}{{[]int32{0}, api.ErrFull}, {[]int32{mostCoord}, api.ErrFull}, {nil, api.ErrDim}, {[]int32{1, 2}, api.ErrDim}, {[]int32{mostCoord + 1, 0}, api.ErrDim}, {[]int32{mostCoord + 1}, api.ErrCoord}, {[]int32{math.MinInt32}, api.ErrCoord}} {
		if id, e := x.Add(y.v); id != 0 || e != y.e {
			t.Error("Add behind the last", y.v, id, e)
		}
	}
	if x.Len() != mostItems || x.Dim() != 1 {
		t.Error(x.Len(), x.Dim())
	}
	for _, id := range []int{0, 1, mostItems / 2, mostItems - 1} {
		if v, ok := x.At(id); !ok || len(v) != 1 || v[0] != int32(id) || x.Far(id, []int32{int32(id) - 3}) != 9 {
			t.Error(id, v, ok)
		}
	}
	for _, id := range []int{-1, mostItems, mostItems + 1} {
		if v, ok := x.At(id); ok || len(v) != 0 || x.Far(id, []int32{7}) != 0 {
			t.Error(id, v, ok)
		}
	}
}

func TestOfAsManyAsThereIsRoomFor(t *testing.T) {
	v := []int32{5}
	l := slices.Repeat([][]int32{v}, mostItems+1)
	x, e := Of(1, l[:mostItems]...)
	if e != api.OK || x.Len() != mostItems {
		t.Fatal(e)
	}
	if w, ok := x.At(mostItems - 1); !ok || !slices.Equal(w, v) {
		t.Error(w, ok)
	}
	if x, e := Of(1, l...); x != nil || e != api.ErrFull {
		t.Error(e)
	}
	l[mostItems] = []int32{mostCoord + 1}
	if x, e := Of(1, l...); x != nil || e != api.ErrCoord {
		t.Error(e)
	}
	l[mostItems] = nil
	if x, e := Of(1, l...); x != nil || e != api.ErrDim {
		t.Error(e)
	}
}

// P10.2: At, Far, Dim, Len

func TestAtOfNoItems(t *testing.T) {
	x, m := made(t, 3)
	agree(t, x, m, nil, []int32{1, 2, 3}, filled(1025, math.MinInt32))
	for _, id := range m.ids() {
		if v, ok := x.At(id); len(v) != 0 || ok {
			t.Error(id, v, ok)
		}
	}
}

func TestAtAndLenAsItemsCome(t *testing.T) {
	r := rand.New(rand.NewSource(102))
	x, m := made(t, 4)
	for n := range 70 {
		if x.Len() != n || x.Dim() != 4 {
			t.Fatal(n, x.Len(), x.Dim())
		}
		agree(t, x, m, drawn(r, 4))
		put(t, x, m, drawn(r, 4))
	}
}

func TestFarByTheWords(t *testing.T) {
	x, _ := made(t, 2, []int32{1, 2}, []int32{3, 4}, []int32{-mostCoord, mostCoord})
	for i, y := range []struct {
		id   int
		v    []int32
		want int64
	}{
		{0, []int32{4, 6}, 25},
		{0, []int32{1, 2}, 0},
		{1, []int32{1, 2}, 8},
		{2, []int32{mostCoord, -mostCoord}, 1 << 43},
		{0, []int32{4}, 9},
		{1, []int32{4}, 1},
		{0, []int32{4, 6, 1000}, 25},
		{0, nil, 0},
		{1, []int32{}, 0},
		{-1, []int32{4, 6}, 0},
		{3, []int32{4, 6}, 0},
		{3, nil, 0},
		{math.MinInt, []int32{4, 6}, 0},
		{math.MaxInt, []int32{4, 6}, 0},
		{0, []int32{math.MinInt32, math.MinInt32}, 2147483649*2147483649 + 2147483650*2147483650 - 1<<63 - 1<<63},
	} {
		if got := x.Far(y.id, y.v); got != y.want {
			t.Error(i, got, "and not", y.want)
		}
	}
}

func TestFarOfShorterAndLongerVectors(t *testing.T) {
	r := rand.New(rand.NewSource(103))
	for _, dim := range []int{1, 2, 5, 1024} {
		x, m := made(t, dim, drawn(r, dim), filled(dim, mostCoord), filled(dim, -mostCoord))
		for _, n := range []int{0, 1, dim / 2, dim - 1, dim, dim + 1, 2 * dim, 1025, 3000} {
			for _, c := range []int32{0, 1, mostCoord, -mostCoord, math.MaxInt32, math.MinInt32} {
				for _, id := range []int{-1, 0, 1, 2, 3, math.MaxInt} {
					if got, want := x.Far(id, filled(n, c)), m.far(id, filled(n, c)); got != want {
						t.Fatal(dim, n, c, id, got, want)
					}
				}
			}
		}
	}
}

// What the vector's spare room has plays no part.
func TestFarLooksAtNoSpareRoom(t *testing.T) {
	x, _ := made(t, 3, []int32{1, 2, 3})
	if far := x.Far(0, []int32{3, 9, 9}[:1]); far != 4 {
		t.Error(far)
	}
}

// P10.2: All

func TestAllOfNoItems(t *testing.T) {
	for _, dim := range []int{1, 1024} {
		x, _ := made(t, dim)
		for range 2 {
			if l := take(x.All(), -1); len(l) != 0 {
				t.Error(l)
			}
		}
	}
}

func TestAllBrokenOffAndBegunAgain(t *testing.T) {
	r := rand.New(rand.NewSource(104))
	for _, n := range []int{1, 2, 3, 12} {
		x, m := made(t, 3)
		for range n {
			put(t, x, m, drawn(r, 3))
		}
		all := x.All()
		for most := range n + 2 {
			if l := take(all, most); !slices.EqualFunc(l, m.pairs()[:min(most, n)], same) {
				t.Error("the first", most, "are", l)
			}
			if l := take(all, -1); !slices.EqualFunc(l, m.pairs(), same) {
				t.Error("behind one broken off at", most, l)
			}
		}
		agree(t, x, m)
	}
}

func TestAllNested(t *testing.T) {
	x, _ := made(t, 1, []int32{7}, []int32{8}, []int32{9})
	all := x.All()
	var got []int32
	for a, v := range all {
		for b, w := range all {
			if v[0] != int32(a+7) || w[0] != int32(b+7) {
				t.Error(a, v, b, w)
			}
			got = append(got, 10*v[0]+w[0])
			w[0] = 0
		}
	}
	if !slices.Equal(got, []int32{77, 78, 79, 87, 88, 89, 97, 98, 99}) {
		t.Error(got)
	}
}

func TestAllOfItemsAddedAheadOfIt(t *testing.T) {
	x, m := made(t, 2)
	for i := range int32(40) {
		if l := take(x.All(), -1); !slices.EqualFunc(l, m.pairs(), same) {
			t.Fatal(i, l)
		}
		put(t, x, m, []int32{i, -i})
		put(t, x, m, []int32{i})
	}
}

// Rules 4 and 8: it hangs on what was added ahead of it, and tells the same again, whatever is added since or within.
func TestAllIsOfWhatWasAddedAhead(t *testing.T) {
	for n := range 9 {
		x, m := made(t, 1)
		for i := range n {
			put(t, x, m, []int32{int32(i)})
		}
		want := m.pairs()
		all := x.All()
		put(t, x, m, []int32{100})
		for range 2 {
			var got []pair
			for id, v := range all {
				got = append(got, pair{id, v})
				put(t, x, m, []int32{int32(200 + id)})
			}
			if !slices.EqualFunc(got, want, same) {
				t.Error(n, got)
			}
		}
		agree(t, x, m)
	}
}

// Rule 3: what is handed in is neither changed nor kept

func TestItemsKeepNothingThatIsHandedIn(t *testing.T) {
	v := []int32{1, 2}
	x, m := made(t, 2)
	for i := range int32(5) {
		v[0], v[1] = i, -i
		put(t, x, m, v)
	}
	clear(v)
	agree(t, x, m)

	l := [][]int32{{5, 6}, {7, 8}, v}
	y, e := Of(2, l...)
	if e != api.OK {
		t.Fatal(e)
	}
	l[0][0], l[1][1], v[0], l[1] = 99, 98, 97, []int32{96, 96}
	agree(t, y, &model{2, [][]int32{{5, 6}, {7, 8}, {0, 0}}})
}

func TestNoCallChangesWhatIsHandedIn(t *testing.T) {
	room := []int32{1, 2, 3, 4, 5, 6, 7, 8}
	rows := [][]int32{room[:2], room[2:4], room[4:6], room[6:8], {9}}
	x, e := Of(2, rows[:2]...)
	if e != api.OK {
		t.Fatal(e)
	}
	x.Add(room[:2])
	x.Add(room[:3])
	for id := range 5 {
		x.Far(id-1, room[:2])
		x.Far(id-1, room[:1])
		x.Far(id-1, room[:5])
	}
	Of(0, rows...)
	Of(2, rows...)
	if !slices.Equal(room, []int32{1, 2, 3, 4, 5, 6, 7, 8}) {
		t.Error(room)
	}
	want := [][]int32{{1, 2}, {3, 4}, {5, 6}, {7, 8}, {9}}
	if !slices.EqualFunc(rows, want, slices.Equal) {
		t.Error(rows)
	}
}

// Rule 3: answers are new memory

// spoil writes into a list, and behind its end.
func spoil(v []int32) {
	for i := range v {
		v[i] = -77
	}
	_ = append(v, -78, -79)
}

func TestAnswersAreNewMemory(t *testing.T) {
	for _, n := range []int{1, 2, 5, 20} {
		x, m := made(t, 3)
		for i := range n {
			put(t, x, m, []int32{int32(i), int32(10 * i), 4})
		}
		kept, _ := x.At(n - 1)
		told := take(x.All(), -1)
		for id := range n {
			v, _ := x.At(id)
			spoil(v)
		}
		all := x.All()
		for _, v := range all {
			spoil(v)
		}
		agree(t, x, m)
		if l := take(all, -1); !slices.EqualFunc(l, m.pairs(), same) {
			t.Error("told again", l)
		}
		if !slices.Equal(kept, m.held[n-1]) || !slices.EqualFunc(told, m.pairs(), same) {
			t.Error("shared by answers", kept, told)
		}
		spoil(told[0].v)
		if !slices.EqualFunc(told[1:], m.pairs()[1:], same) {
			t.Error("shared by answers of one range", told)
		}
	}
}

// An item that is handed on from items is the other's own.
func TestItemsOfItems(t *testing.T) {
	x, m := made(t, 2, []int32{1, 2}, []int32{3, 4})
	var l [][]int32
	for _, v := range x.All() {
		l = append(l, v)
	}
	y, e := Of(2, l...)
	if e != api.OK {
		t.Fatal(e)
	}
	for _, v := range l {
		spoil(v)
	}
	agree(t, x, m)
	agree(t, y, m)
}

// Rule 4: who asks side by side is answered as one who asks alone.
func TestAskedSideBySide(t *testing.T) {
	r := rand.New(rand.NewSource(105))
	x, m := made(t, 5)
	for range 200 {
		put(t, x, m, drawn(r, 5))
	}
	probe := drawn(r, 5)
	wrongs := make([]int, 8)
	var ended sync.WaitGroup
	for w := range wrongs {
		ended.Go(func() {
			for id, v := range x.All() {
				got, ok := x.At(id)
				if !ok || !slices.Equal(v, m.held[id]) || !slices.Equal(got, v) || x.Far(id, probe) != m.far(id, probe) {
					wrongs[w]++
				}
			}
		})
	}
	ended.Wait()
	if !slices.Equal(wrongs, make([]int, 8)) {
		t.Error(wrongs)
	}
}
