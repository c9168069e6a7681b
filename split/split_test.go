package split

import (
	"math"
	"math/big"
	"math/rand"
	"slices"
	"sync"
	"testing"

	"shelterbelt/api"
	"shelterbelt/data"
	"shelterbelt/plane"
	"shelterbelt/rng"
)

const (
	mostCoord = 1048576 // what a vector's coordinate may be, either way
	mostTries = 4
)

// The chapter's words, anew: items are a plain list of vectors, sums are without bounds, draws are those of a plain list.

// item is the vector of an id, or the empty one.
func item(items [][]int32, id int) []int32 {
	for i, v := range items {
		if i == id {
			return v
		}
	}
	return nil
}

// summed is the sum of products by the places that both have, without bounds.
func summed(a, b []int32) *big.Int {
	sum := new(big.Int)
	for i := 0; i < len(a) && i < len(b); i++ {
		sum.Add(sum, new(big.Int).Mul(big.NewInt(int64(a[i])), big.NewInt(int64(b[i]))))
	}
	return sum
}

// margin is twice that sum less the offset, modulo 2^64.
func margin(p api.Plane, v []int32) int64 {
	m := summed(p.Normal, v)
	m.Sub(m.Add(m, m), big.NewInt(p.Offset))
	return int64(m.Mod(m, new(big.Int).Lsh(big.NewInt(1), 64)).Uint64())
}

// partedBy are both sides of ids at a plane, each taken from the ids by itself.
func partedBy(items [][]int32, ids []int, p api.Plane) ([]int, []int) {
	onSide := func(id int) bool { return margin(p, item(items, id)) >= 0 }
	left := slices.DeleteFunc(slices.Clone(ids), onSide)
	right := slices.DeleteFunc(slices.Clone(ids), func(id int) bool { return !onSide(id) })
	return left, right
}

// good: is the greater side at most seven times as long as the smaller one, and that not empty?
func good(n, m int) bool {
	return n > 0 && m > 0 && n <= 7*m && m <= 7*n
}

// halved are the first ones and the others: from both ends one is taken by turns, of an odd number the first one has the last.
func halved(ids []int) ([]int, []int) {
	left, right := 0, 0
	for left+right < len(ids) {
		if left == right {
			left++
		} else {
			right++
		}
	}
	return ids[:left], ids[left:]
}

// middle is the plane between two vectors that may be.
func middle(a, b []int32) api.Plane {
	var n []int32
	for i := 0; i < len(a) && i < len(b); i++ {
		n = append(n, a[i]-b[i])
	}
	sum := summed(n, a)
	return api.Plane{Normal: n, Offset: sum.Add(sum, summed(n, b)).Int64()}
}

// places are two places of n: the second one is one of those that are left when the first one is gone.
func places(n int, d, e uint64) (int, int) {
	var l []int
	for i := range n {
		l = append(l, i)
	}
	first := l[d%uint64(n)]
	l = slices.DeleteFunc(l, func(i int) bool { return i == first })
	return first, l[e%uint64(n-1)]
}

// chosen is the split of ids by the chapter's words; draws are a list, and 0 behind it.
func chosen(dim int, items [][]int32, ids []int, draws []uint64) Split {
	draws = append(slices.Clone(draws), make([]uint64, 2*mostTries)...)
	for try := 1; try <= mostTries && len(ids) >= 2; try++ {
		i, j := places(len(ids), draws[0], draws[1])
		draws = draws[2:]
		p := middle(item(items, ids[i]), item(items, ids[j]))
		left, right := partedBy(items, ids, p)
		if good(len(left), len(right)) {
			return Split{p, left, right, try}
		}
	}
	tries := 0
	if len(ids) >= 2 {
		tries = mostTries
	}
	left, right := halved(ids)
	return Split{api.Plane{Normal: make([]int32, dim)}, left, right, tries}
}

// same: number by number?
func same(a, b Split) bool {
	return slices.Equal(a.Plane.Normal, b.Plane.Normal) && a.Plane.Offset == b.Plane.Offset &&
		slices.Equal(a.Left, b.Left) && slices.Equal(a.Right, b.Right) && a.Tries == b.Tries
}

// What is handed in.

// of is a plane of an offset and of coordinates.
func of(offset int64, normal ...int32) api.Plane {
	return api.Plane{Normal: normal, Offset: offset}
}

// made are items of vectors that all may be.
func made(t *testing.T, dim int, l ...[]int32) *data.Items {
	t.Helper()
	x, e := data.Of(dim, l...)
	if e != api.OK {
		t.Fatal(dim, e)
	}
	return x
}

// line are vectors of dimension 1.
func line(l ...int32) [][]int32 {
	var items [][]int32
	for _, n := range l {
		items = append(items, []int32{n})
	}
	return items
}

// filled is a vector of n coordinates that are all c.
func filled(n int, c int32) []int32 { return slices.Repeat([]int32{c}, n) }

// upTo are the ids from 0 on below n.
func upTo(n int) []int {
	l := make([]int, n)
	for i := range l {
		l[i] = i
	}
	return l
}

// drawn is a vector of n coordinates that may be, some of them at the edges.
func drawn(r *rand.Rand, n int, within int32) []int32 {
	v := make([]int32, n)
	for i := range v {
		switch r.Intn(6) {
		case 0:
			v[i] = within
		case 1:
			v[i] = -within
		case 2:
			v[i] = int32(r.Intn(3) - 1)
		default:
			v[i] = int32(r.Int63n(2*int64(within)+1) - int64(within))
		}
	}
	return v
}

// drawnItems are n of these, every third one the same as one ahead of it.
func drawnItems(r *rand.Rand, n, dim int, within int32) [][]int32 {
	var l [][]int32
	for i := range n {
		if i > 0 && r.Intn(3) == 0 {
			l = append(l, slices.Clone(l[r.Intn(i)]))
		} else {
			l = append(l, drawn(r, dim, within))
		}
	}
	return l
}

// noItems are ids that are none of n items'.
func noItems(n int) []int {
	return []int{-1, -2, -n - 1, n, n + 1, 2*n + 2, 1 << 21, 1 << 31, 1 << 32, -1 << 32, 1<<40 + 1, math.MaxInt, math.MaxInt - 1, math.MinInt, math.MinInt + 1}
}

// drawnIds are m ids, most of them of n items, some of them several times, and some that are no item's, if wanted.
func drawnIds(r *rand.Rand, m, n int, others bool) []int {
	var l []int
	for range m {
		if n == 0 || others && r.Intn(5) == 0 {
			none := noItems(n)
			l = append(l, none[r.Intn(len(none))])
		} else {
			l = append(l, r.Intn(n))
		}
	}
	return l
}

// ends are offsets at which numbers would go round, and their neighbours.
func ends() []int64 {
	return []int64{0, 1, -1, 2, -2, 1 << 53, -1 << 53, 1 << 62, -1 << 62, math.MaxInt64, math.MaxInt64 - 1, math.MinInt64, math.MinInt64 + 1}
}

// each tells all rows of so many numbers below n, one in a list that is written over again and again.
func each(length, n int, tell func([]int)) {
	row := make([]int, length)
	for {
		tell(row)
		i := 0
		for i < length && row[i] == n-1 {
			row[i] = 0
			i++
		}
		if i == length {
			return
		}
		row[i]++
	}
}

// What is held against the words.

func holdPart(t *testing.T, x *data.Items, items [][]int32, ids []int, p api.Plane) {
	t.Helper()
	left, right := Part(x, ids, p)
	wantLeft, wantRight := partedBy(items, ids, p)
	if !slices.Equal(left, wantLeft) || !slices.Equal(right, wantRight) {
		t.Fatalf("Part of %v, of %v by %v: %v and %v, and not %v and %v", ids, items, p, left, right, wantLeft, wantRight)
	}
	together(t, ids, left, right)
}

// together holds both sides to have all ids, each as often.
func together(t *testing.T, ids, left, right []int) {
	t.Helper()
	if l := slices.Concat(left, right); !slices.Equal(slices.Sorted(slices.Values(l)), slices.Sorted(slices.Values(ids))) {
		t.Fatalf("%v and %v haven't all of %v", left, right, ids)
	}
}

// holdChoose asks by a script, and holds what is answered, and what was drawn, to the words.
func holdChoose(t *testing.T, x *data.Items, items [][]int32, ids []int, draws ...uint64) Split {
	t.Helper()
	c := rng.Count(rng.Script(draws...))
	s := Choose(x, ids, c)
	if want := chosen(x.Dim(), items, ids, draws); !same(s, want) {
		t.Fatalf("Choose of %v, of %v by %v: %v, and not %v", ids, items, draws, s, want)
	}
	holdSplit(t, ids, s, c.Drawn())
	return s
}

// holdSplit holds a split to what follows from the words.
func holdSplit(t *testing.T, ids []int, s Split, drawn int) {
	t.Helper()
	together(t, ids, s.Left, s.Right)
	if len(ids) >= 2 && (len(s.Left) == 0 || len(s.Right) == 0) {
		t.Fatalf("of %v a side is empty: %v", ids, s)
	}
	if drawn != 2*s.Tries || s.Tries < 0 || s.Tries > 4 || (s.Tries == 0) != (len(ids) < 2) {
		t.Fatalf("of %v: %d draws, %d tries", ids, drawn, s.Tries)
	}
}

// P12.1: Part

func TestExample(t *testing.T) {
	x := made(t, 1, line(0, 10, 1, 11)...)
	left, right := Part(x, []int{0, 1, 2, 3}, of(-100, -10))
	if !slices.Equal(left, []int{1, 3}) || !slices.Equal(right, []int{0, 2}) {
		t.Error(left, right)
	}
	c := rng.Count(rng.Script(0, 0))
	s := Choose(x, []int{0, 1, 2, 3}, c)
	if !same(s, Split{of(-100, -10), []int{1, 3}, []int{0, 2}, 1}) || c.Drawn() != 2 {
		t.Error(s, c.Drawn())
	}
}

func TestPartOfNoIds(t *testing.T) {
	items := line(5, -5)
	for _, x := range []*data.Items{made(t, 1, items...), made(t, 1)} {
		for _, ids := range [][]int{nil, {}, upTo(5)[:0]} {
			for _, p := range []api.Plane{{}, of(0, 1), of(1, 1), of(0, 0), of(7)} {
				if left, right := Part(x, ids, p); len(left) != 0 || len(right) != 0 {
					t.Error(ids, p, left, right)
				}
			}
		}
	}
}

func TestPartOfOneId(t *testing.T) {
	x := made(t, 1, line(5, -5)...)
	for id, wantRight := range map[int]bool{0: true, 1: false, 2: true, -1: true} {
		left, right := Part(x, []int{id}, of(0, 1))
		if wantRight && (len(left) != 0 || !slices.Equal(right, []int{id})) || !wantRight && (len(right) != 0 || !slices.Equal(left, []int{id})) {
			t.Error(id, left, right)
		}
	}
}

// All rows of up to five ids, of four items and two that are none, at planes on, between and beside the items.
func TestPartOfAllShortRows(t *testing.T) {
	items := line(-1, 0, 2, 0)
	x := made(t, 1, items...)
	for length := range 6 {
		each(length, 6, func(row []int) {
			var ids []int
			for _, n := range row {
				ids = append(ids, n-1)
			}
			for _, p := range []api.Plane{of(0, 1), of(1, 1), of(-1, 1), of(0, -1), of(4, 1), of(5, 1), of(0, 0), of(1, 0)} {
				left, right := Part(x, ids, p)
				wantLeft, wantRight := plainly(items, ids, p)
				if !slices.Equal(left, wantLeft) || !slices.Equal(right, wantRight) {
					t.Fatal(ids, p, left, right)
				}
			}
		})
	}
}

// plainly are both sides of dimension 1, by small numbers.
func plainly(items [][]int32, ids []int, p api.Plane) (left, right []int) {
	for _, id := range ids {
		m := -p.Offset
		if v := item(items, id); v != nil {
			m = 2*int64(p.Normal[0])*int64(v[0]) - p.Offset
		}
		if m < 0 {
			left = append(left, id)
		} else {
			right = append(right, id)
		}
	}
	return left, right
}

func TestPartKeepsIdsAsTheyStood(t *testing.T) {
	x := made(t, 1, line(5, -5, 0, 7, -1)...)
	ids := []int{4, 3, 1, 0, 1, 2, 4, 3, 0, 0, 1}
	left, right := Part(x, ids, of(0, 1))
	if !slices.Equal(left, []int{4, 1, 1, 4, 1}) || !slices.Equal(right, []int{3, 0, 2, 3, 0, 0}) {
		t.Error(left, right)
	}
	left, right = Part(x, ids, of(0, -1))
	if !slices.Equal(left, []int{3, 0, 3, 0, 0}) || !slices.Equal(right, []int{4, 1, 1, 2, 4, 1}) {
		t.Error(left, right)
	}
}

// The margin of each item in its turn is just 0, just above it and just below it.
func TestPartAtMargins(t *testing.T) {
	r := rand.New(rand.NewSource(1))
	for range 60 {
		dim := []int{1, 2, 5, 1024}[r.Intn(4)]
		items := drawnItems(r, 6, dim, []int32{2, mostCoord}[r.Intn(2)])
		x, ids := made(t, dim, items...), append(upTo(6), 6, -1, 3)
		normal := drawn(r, dim, 2*mostCoord)
		for id, v := range items {
			offset := 2 * summed(normal, v).Int64()
			for by, wantRight := range map[int64]bool{0: true, -1: true, 1: false, -2: true, 2: false} {
				p := of(offset+by, normal...)
				if _, right := Part(x, []int{id}, p); (len(right) == 1) != wantRight {
					t.Fatal(dim, id, by, right)
				}
				holdPart(t, x, items, ids, p)
			}
		}
	}
}

// Of the flat plane each margin is 0, so that all are on its side; its offset alone tells of planes of noughts.
func TestPartByFlatPlanes(t *testing.T) {
	for _, dim := range []int{1, 2, 1024} {
		items := [][]int32{filled(dim, 3), filled(dim, -mostCoord), filled(dim, 0), filled(dim, mostCoord)}
		x, ids := made(t, dim, items...), []int{3, 1, -1, 0, 2, 4, 3}
		if left, right := Part(x, ids, plane.Flat(dim)); len(left) != 0 || !slices.Equal(right, ids) {
			t.Error(dim, left, right)
		}
		for _, offset := range ends() {
			p := of(offset, filled(dim, 0)...)
			left, right := Part(x, ids, p)
			if offset == math.MinInt64 || offset > 0 {
				left, right = right, left
			}
			if len(left) != 0 || !slices.Equal(right, ids) {
				t.Error(dim, offset, left, right)
			}
			holdPart(t, x, items, ids, p)
		}
	}
}

// An id that is no item's has the empty vector, whatever the plane: its margin is the offset, turned over.
func TestPartOfIdsThatAreNoItems(t *testing.T) {
	for _, n := range []int{0, 1, 3} {
		items := line(mostCoord, -mostCoord, 4)[:n]
		x := made(t, 1, items...)
		none := noItems(n)
		for _, offset := range ends() {
			for _, normal := range [][]int32{nil, {0}, {1}, {-1}, {2 * mostCoord}, {7, 7}} {
				p := of(offset, normal...)
				left, right := Part(x, none, p)
				if offset == math.MinInt64 || offset > 0 {
					left, right = right, left
				}
				if len(left) != 0 || !slices.Equal(right, none) {
					t.Error(n, p, left, right)
				}
				holdPart(t, x, items, append(upTo(n), none...), p)
				holdPart(t, x, items, append(slices.Clone(none), upTo(n)...), p)
			}
		}
		for _, id := range none {
			holdPart(t, x, items, []int{id}, of(0, 1))
			holdPart(t, x, items, []int{id}, of(1, 1))
		}
	}
}

// Just the places that both have count: of planes of too few coordinates, of too many and of none.
func TestPartByPlanesOfOtherDimensions(t *testing.T) {
	items := [][]int32{{1, -9, 5}, {-1, 9, -5}, {0, 0, 1}, {0, 1, 0}, {3, -3, 0}}
	x, ids := made(t, 3, items...), []int{4, 0, 1, 2, 3, 9, 0}
	left, right := Part(x, ids, of(0, 1))
	if !slices.Equal(left, []int{1}) || !slices.Equal(right, []int{4, 0, 2, 3, 9, 0}) {
		t.Error(left, right)
	}
	left, right = Part(x, ids, of(0, 1, 1))
	if !slices.Equal(left, []int{0, 0}) || !slices.Equal(right, []int{4, 1, 2, 3, 9}) {
		t.Error(left, right)
	}
	left, right = Part(x, ids, of(1, 0, 0, 1, -100, -100))
	if !slices.Equal(left, []int{4, 1, 3, 9}) || !slices.Equal(right, []int{0, 2, 0}) {
		t.Error(left, right)
	}
	r := rand.New(rand.NewSource(2))
	for n := range 9 {
		for _, offset := range ends() {
			holdPart(t, x, items, ids, of(offset, drawn(r, n, 3)...))
			holdPart(t, x, items, ids, of(offset, drawn(r, n, math.MaxInt32)...))
		}
	}
	if left, right := Part(x, ids, api.Plane{}); len(left) != 0 || !slices.Equal(right, ids) {
		t.Error(left, right)
	}
}

func TestPartOfDrawnIds(t *testing.T) {
	r := rand.New(rand.NewSource(3))
	for range 1500 {
		dim, n := 1+r.Intn(6), r.Intn(9)
		within := []int32{2, 50, mostCoord}[r.Intn(3)]
		items := drawnItems(r, n, dim, within)
		x, ids := made(t, dim, items...), drawnIds(r, r.Intn(20), n, true)
		p := of(int64(r.Intn(9)-4), drawn(r, r.Intn(2)+dim, within)...)
		if n > 1 && r.Intn(2) == 0 {
			p = middle(items[0], items[n-1])
		}
		holdPart(t, x, items, ids, p)
	}
}

func TestPartOfManyIds(t *testing.T) {
	const n = 50000
	x := made(t, 1)
	var left, right []int
	for id := range n {
		c := int32(id*7919%n - n/2)
		x.Add([]int32{c})
		if c < 0 {
			left = append(left, id)
		} else {
			right = append(right, id)
		}
	}
	a, b := Part(x, upTo(n), of(0, 1))
	if !slices.Equal(a, left) || !slices.Equal(b, right) {
		t.Error(len(a), len(b))
	}
}

// P12.1: Good

func TestGoodOfEachLength(t *testing.T) {
	ids := upTo(700)
	for n := range 90 {
		for m := range 701 {
			if Good(ids[:n], ids[:m]) != good(n, m) || Good(ids[:m], ids[:n]) != good(n, m) {
				t.Fatal(n, m)
			}
		}
	}
}

func TestGoodAtTheEdges(t *testing.T) {
	for _, x := range []struct {
		n, m int
		ok   bool
	}{
		{0, 0, false}, {0, 1, false}, {0, 7, false}, {0, 1000, false},
		{1, 1, true}, {1, 6, true}, {1, 7, true}, {1, 8, false}, {1, 9, false},
		{2, 2, true}, {2, 13, true}, {2, 14, true}, {2, 15, false}, {2, 16, false},
		{3, 21, true}, {3, 22, false}, {1000, 7000, true}, {1000, 7001, false}, {999, 7000, false},
	} {
		if Good(make([]int, x.n), make([]int, x.m)) != x.ok || Good(make([]int, x.m), make([]int, x.n)) != x.ok {
			t.Error(x)
		}
	}
	if Good(nil, nil) || Good(nil, []int{1}) || Good([]int{1}, nil) || Good([]int{}, []int{}) {
		t.Error("an empty side is good")
	}
}

// How many there are is told alone: not which ones, not what room there is, not whether both are the same list.
func TestGoodOfLengthsAlone(t *testing.T) {
	room := upTo(100)
	if !Good(room, room) || !Good(room[:1], room[:1]) || !Good(room[:1], room[93:]) || Good(room[:1], room[92:]) {
		t.Error("not by lengths")
	}
	if Good(room[:0], room) || Good(room, room[:0]) || !Good(noItems(3), make([]int, 15)) || !Good([]int{5, 5}, []int{5, 5}) {
		t.Error("not by lengths")
	}
}

// P12.1: Halves

func TestHalvesOfFew(t *testing.T) {
	for _, x := range []struct{ ids, left, right []int }{
		{nil, nil, nil},
		{[]int{}, nil, nil},
		{[]int{7}, []int{7}, nil},
		{[]int{7, 8}, []int{7}, []int{8}},
		{[]int{7, 8, 9}, []int{7, 8}, []int{9}},
		{[]int{9, 8, 7, 6}, []int{9, 8}, []int{7, 6}},
		{[]int{5, 5, 5, 5, 5}, []int{5, 5, 5}, []int{5, 5}},
		{[]int{-1, 1 << 40, math.MinInt, -1, math.MaxInt, 0}, []int{-1, 1 << 40, math.MinInt}, []int{-1, math.MaxInt, 0}},
	} {
		if left, right := Halves(x.ids); !slices.Equal(left, x.left) || !slices.Equal(right, x.right) {
			t.Error(x.ids, left, right)
		}
	}
}

func TestHalvesOfEachLength(t *testing.T) {
	r := rand.New(rand.NewSource(4))
	for n := range 300 {
		ids := drawnIds(r, n, 10, true)
		left, right := Halves(ids)
		wantLeft, wantRight := halved(ids)
		if !slices.Equal(left, wantLeft) || !slices.Equal(right, wantRight) || !slices.Equal(slices.Concat(left, right), ids) {
			t.Fatal(n, left, right)
		}
		if len(left)-len(right) != n%2 {
			t.Fatal(n, len(left), len(right))
		}
	}
}

func TestHalvesOfMany(t *testing.T) {
	for _, n := range []int{1 << 20, 1<<20 + 1} {
		ids := upTo(n)
		left, right := Halves(ids)
		if len(left) != 1<<19+n%2 || len(right) != 1<<19 || !slices.Equal(slices.Concat(left, right), ids) {
			t.Error(n, len(left), len(right))
		}
	}
}

// P12.2: Choose

// never is a source that nobody may ask.
type never struct{ t *testing.T }

func (n never) Draw() uint64 {
	n.t.Error("a draw of fewer than two ids")
	return 0
}

func TestChooseOfFewerThanTwo(t *testing.T) {
	for _, dim := range []int{1, 3, 1024} {
		for _, x := range []*data.Items{made(t, dim), made(t, dim, filled(dim, 5)), made(t, dim, filled(dim, 5), filled(dim, 6))} {
			for _, ids := range [][]int{nil, {}, {0}, {1}, {2}, {-1}, {math.MaxInt}, {math.MinInt}} {
				c := rng.Count(never{t})
				s := Choose(x, ids, c)
				if !same(s, Split{of(0, filled(dim, 0)...), ids, nil, 0}) || c.Drawn() != 0 {
					t.Error(dim, ids, s, c.Drawn())
				}
			}
		}
	}
}

func TestChooseOfTwo(t *testing.T) {
	items := line(3, 8, 3)
	x := made(t, 1, items...)
	for _, w := range []struct {
		ids   []int
		draws []uint64
		want  Split
	}{
		{[]int{0, 1}, []uint64{0, 0}, Split{of(-55, -5), []int{1}, []int{0}, 1}},
		{[]int{0, 1}, []uint64{1, 0}, Split{of(55, 5), []int{0}, []int{1}, 1}},
		{[]int{0, 1}, []uint64{6, 5}, Split{of(-55, -5), []int{1}, []int{0}, 1}},
		{[]int{1, 0}, []uint64{math.MaxUint64, math.MaxUint64}, Split{of(-55, -5), []int{1}, []int{0}, 1}},
		{[]int{1, 0}, nil, Split{of(55, 5), []int{0}, []int{1}, 1}},
		{[]int{0, 2}, []uint64{1, 0}, Split{of(0, 0), []int{0}, []int{2}, 4}},
		{[]int{2, 0}, nil, Split{of(0, 0), []int{2}, []int{0}, 4}},
		{[]int{1, 1}, []uint64{1}, Split{of(0, 0), []int{1}, []int{1}, 4}},
	} {
		if s := holdChoose(t, x, items, w.ids, w.draws...); !same(s, w.want) {
			t.Error(w.ids, w.draws, s)
		}
	}
}

// Draws tell places in the list of ids, not ids.
func TestChooseByPlaces(t *testing.T) {
	items := line(1, 2, 3, 4)
	x := made(t, 1, items...)
	s := holdChoose(t, x, items, []int{3, 2, 1, 0}, 0, 2)
	if !same(s, Split{of(15, 3), []int{1, 0}, []int{3, 2}, 1}) {
		t.Error(s)
	}
	s = holdChoose(t, x, items, []int{3, 1, 3, 1, 1}, 1, 0)
	if !same(s, Split{of(-12, -2), []int{3, 3}, []int{1, 1, 1}, 1}) {
		t.Error(s)
	}
	s = holdChoose(t, x, items, []int{3, 1, 3, 1, 1}, 7, 0, 3, 3, 0, 2)
	if !same(s, Split{of(12, 2), []int{1, 1, 1}, []int{3, 3}, 3}) {
		t.Error(s)
	}
}

// lopsided are sixteen items, of which the places 0 to 13, the place 14 and the place 15 are apart.
func lopsided() [][]int32 {
	return line(0, 0, 0, 0, 0, 0, 0, 0, 0, 0, 0, 0, 0, 0, 10, 100)
}

// badTries are draws of which the try is bad, of lopsided: of two alike, by which all are on one side, and of the last two, by which just one is.
func badTries() [][2]uint64 {
	return [][2]uint64{{0, 0}, {14, 14}, {5, 3}, {15, 14}, {13, 0}}
}

// The first good try is taken, and no more are drawn.
func TestChooseTakesTheFirstGoodTry(t *testing.T) {
	items := lopsided()
	x, ids := made(t, 1, items...), upTo(16)
	for bad := range 4 {
		each(bad, len(badTries()), func(row []int) {
			var draws []uint64
			for _, n := range row {
				draws = append(draws, badTries()[n][:]...)
			}
			s := holdChoose(t, x, items, ids, append(draws, 14, 2, 0, 14)...)
			if !same(s, Split{of(100, 10), upTo(14), []int{14, 15}, bad + 1}) {
				t.Fatal(draws, s)
			}
			s = holdChoose(t, x, items, ids, append(draws, 3, 13, 14, 2)...)
			if !same(s, Split{of(-100, -10), []int{14, 15}, upTo(14), bad + 1}) {
				t.Fatal(draws, s)
			}
		})
	}
}

// Four bad tries end in halves, whatever a fifth would bring.
func TestChooseOfBadTriesAlone(t *testing.T) {
	items := lopsided()
	x, ids := made(t, 1, items...), upTo(16)
	each(4, len(badTries()), func(row []int) {
		var draws []uint64
		for _, n := range row {
			draws = append(draws, badTries()[n][:]...)
		}
		s := holdChoose(t, x, items, ids, append(draws, 14, 2)...)
		if !same(s, Split{of(0, 0), upTo(8), ids[8:], 4}) {
			t.Fatal(draws, s)
		}
	})
}

// A try is good from an eighth of all on.
func TestChooseAtTheBalance(t *testing.T) {
	for _, x := range []struct{ near, away, tries int }{{7, 1, 1}, {8, 1, 4}, {14, 2, 1}, {15, 2, 4}, {1, 7, 1}, {1, 8, 4}, {2, 14, 1}, {2, 15, 4}, {21, 3, 1}, {22, 3, 4}} {
		items := line(slices.Concat(filled(x.near, 0), filled(x.away, 9))...)
		n := x.near + x.away
		last := uint64(n - 1)
		s := holdChoose(t, made(t, 1, items...), items, upTo(n), last, 0, last, 0, last, 0, last, 0)
		if s.Tries != x.tries || x.tries == 1 && (len(s.Left) != x.near || !plane.Same(s.Plane, of(81, 9))) {
			t.Error(x, s)
		}
		if x.tries == 4 && (len(s.Left) != (n+1)/2 || !plane.Same(s.Plane, of(0, 0))) {
			t.Error(x, s)
		}
	}
}

// A script that ends too soon tells noughts: the places 0 and 1.
func TestChooseByScriptsThatEndTooSoon(t *testing.T) {
	items := lopsided()
	x := made(t, 1, items...)
	whole := []uint64{0, 0, 15, 14, 14, 14, 14, 2}
	for n := range len(whole) + 1 {
		for _, ids := range [][]int{upTo(16), {14, 0, 1, 2, 15}, {0, 15}, {15, 14, 0, 1, 2, 3, 4, 5, 6, 7, 8, 9, 10, 11, 12, 13}} {
			holdChoose(t, x, items, ids, whole[:n]...)
		}
	}
	s := holdChoose(t, x, items, upTo(16), 14)
	if s.Tries != 1 || !plane.Same(s.Plane, of(100, 10)) {
		t.Error(s)
	}
	s = holdChoose(t, x, items, upTo(16), 15, 14, 0)
	if s.Tries != 4 || !plane.Same(s.Plane, of(0, 0)) {
		t.Error(s)
	}
}

// Items that are all the same end in halves.
func TestChooseOfItemsThatAreAllTheSame(t *testing.T) {
	for _, dim := range []int{1, 2, 1024} {
		for _, c := range []int32{0, 3, mostCoord, -mostCoord} {
			for _, n := range []int{2, 3, 8, 50} {
				items := slices.Repeat([][]int32{filled(dim, c)}, n)
				s := holdChoose(t, made(t, dim, items...), items, upTo(n), 1, 2, 3, 4, 5)
				if !same(s, Split{of(0, filled(dim, 0)...), upTo(n)[:(n+1)/2], upTo(n)[(n+1)/2:], 4}) {
					t.Fatal(dim, c, n, s)
				}
			}
		}
	}
}

// Where there is no item at all each plane has no coordinates, and all ids are on its side.
func TestChooseOfNoItem(t *testing.T) {
	for _, dim := range []int{1, 3, 1024} {
		x := made(t, dim)
		for _, ids := range [][]int{{0, 1}, {0, 0, 0}, {5, -1, 7, math.MaxInt, 9}, noItems(0)} {
			s := holdChoose(t, x, nil, ids, 1, 0, 1, 1)
			left, right := halved(ids)
			if !same(s, Split{of(0, filled(dim, 0)...), left, right, 4}) {
				t.Error(dim, ids, s)
			}
		}
	}
}

// A try that meets an id that is no item's is bad, as its plane has no coordinates; one that doesn't parts such ids, too.
func TestChooseOfIdsThatAreNoItems(t *testing.T) {
	items := line(-3, 5)
	x := made(t, 1, items...)
	ids := []int{0, 2, -1, 1, 1 << 40}
	s := holdChoose(t, x, items, ids, 0, 0, 1, 0, 1, 2, 3, 0)
	if !same(s, Split{of(16, 8), []int{0, 2, -1, 1 << 40}, []int{1}, 4}) {
		t.Error(s)
	}
	s = holdChoose(t, x, items, ids, 0, 2)
	if !same(s, Split{of(-16, -8), []int{1}, []int{0, 2, -1, 1 << 40}, 1}) {
		t.Error(s)
	}
	for _, ids := range [][]int{{0, 2}, {-1, 1}, {2, -1}, {math.MinInt, 1, math.MaxInt}} {
		for d := range uint64(3) {
			if s := holdChoose(t, x, items, ids, d, 0, d, 1); s.Tries != 4 || !plane.Same(s.Plane, of(0, 0)) {
				t.Error(ids, d, s)
			}
		}
	}
}

// All rows of up to four ids, by all draws of two tries.
func TestChooseOfAllShortRows(t *testing.T) {
	items := [][]int32{{0, 0}, {4, 0}, {1, 1}}
	x := made(t, 2, items...)
	for length := range 5 {
		each(length, 4, func(row []int) {
			ids := slices.Clone(row)
			each(4, max(1, length), func(l []int) {
				holdChoose(t, x, items, ids, uint64(l[0]), uint64(l[1]), uint64(l[2]), uint64(l[3]))
			})
		})
	}
}

func TestChooseByDrawnScripts(t *testing.T) {
	r := rand.New(rand.NewSource(5))
	tried := make([]int, mostTries+1)
	for range 4000 {
		dim, n := 1+r.Intn(4), r.Intn(12)
		items := drawnItems(r, n, dim, []int32{1, 9, mostCoord}[r.Intn(3)])
		x, ids := made(t, dim, items...), drawnIds(r, r.Intn(25), n, r.Intn(2) == 0)
		var draws []uint64
		for range r.Intn(10) {
			draws = append(draws, r.Uint64()>>[]int{0, 32, 58}[r.Intn(3)])
		}
		tried[holdChoose(t, x, items, ids, draws...).Tries]++
	}
	if slices.Contains(tried, 0) {
		t.Error("not each number of tries came up:", tried)
	}
}

func TestChooseOfManyDimensions(t *testing.T) {
	r := rand.New(rand.NewSource(6))
	for _, dim := range []int{1, 2, 17, 1023, 1024} {
		for range 8 {
			items := drawnItems(r, 12, dim, mostCoord)
			holdChoose(t, made(t, dim, items...), items, drawnIds(r, 10, 12, true), r.Uint64(), r.Uint64(), r.Uint64())
		}
		items := [][]int32{filled(dim, mostCoord), filled(dim, -mostCoord), filled(dim, 0)}
		s := holdChoose(t, made(t, dim, items...), items, []int{0, 1, 2})
		if !same(s, Split{of(0, filled(dim, 2*mostCoord)...), []int{1}, []int{0, 2}, 1}) {
			t.Error(dim, s.Left, s.Right, s.Tries)
		}
	}
}

// mixed are the first draws of a mixer (SplitMix64) of a state.
func mixed(state uint64) []uint64 {
	var l []uint64
	for range 2 * mostTries {
		state += 0x9E3779B97F4A7C15
		n := (state ^ state>>30) * 0xBF58476D1CE4E5B9
		n = (n ^ n>>27) * 0x94D049BB133111EB
		l = append(l, n^n>>31)
	}
	return l
}

func TestChooseByMixers(t *testing.T) {
	r := rand.New(rand.NewSource(7))
	for seed := range uint64(600) {
		dim, n := 1+r.Intn(3), 1+r.Intn(30)
		items := drawnItems(r, n, dim, []int32{1, mostCoord}[r.Intn(2)])
		x, ids := made(t, dim, items...), drawnIds(r, r.Intn(60), n, false)
		state := seed * 0x123456789ABCDEF
		c := rng.Count(rng.Mix(state))
		s := Choose(x, ids, c)
		if want := chosen(dim, items, ids, mixed(state)); !same(s, want) {
			t.Fatal(ids, s, want)
		}
		holdSplit(t, ids, s, c.Drawn())
	}
}

// A source goes on where a split ended: what is drawn behind it is what stands there.
func TestChooseUsesUpItsDrawsAlone(t *testing.T) {
	items := lopsided()
	x := made(t, 1, items...)
	draws := []uint64{0, 0, 14, 2, 15, 14, 0, 13, 77}
	source := rng.Script(draws...)
	for _, want := range []int{2, 2} {
		if s := Choose(x, upTo(16), source); s.Tries != want {
			t.Error(s)
		}
	}
	Choose(x, []int{3}, source)
	Choose(x, nil, source)
	if n := source.Draw(); n != 77 {
		t.Error(n)
	}
}

func TestChooseOfManyIds(t *testing.T) {
	const n = 20000
	x := made(t, 1)
	for id := range n {
		x.Add([]int32{int32(id * 7919 % n)})
	}
	c := rng.Count(rng.Mix(8))
	s := Choose(x, upTo(n), c)
	holdSplit(t, upTo(n), s, c.Drawn())
	if left, right := Part(x, upTo(n), s.Plane); !slices.Equal(left, s.Left) || !slices.Equal(right, s.Right) || !Good(left, right) {
		t.Error(len(left), len(right), s.Tries)
	}
	for place, id := range s.Right[1:] {
		if s.Right[place] >= id {
			t.Fatal(place, id)
		}
	}
}

// Rule 3: what is handed in is neither changed nor kept, and answers are new memory

// spoil writes into a list, and behind its end.
func spoil(l []int) {
	for i := range l {
		l[i] = -77
	}
	_ = append(l, -78, -79, -80)
}

// asked are calls that answer two sides, of ids.
func asked(x *data.Items, p api.Plane, draws ...uint64) []func(ids []int) ([]int, []int) {
	return []func(ids []int) ([]int, []int){
		func(ids []int) ([]int, []int) { return Part(x, ids, p) },
		Halves,
		func(ids []int) ([]int, []int) {
			s := Choose(x, ids, rng.Script(draws...))
			return s.Left, s.Right
		},
	}
}

func TestSidesAreNewMemory(t *testing.T) {
	items := lopsided()
	x := made(t, 1, items...)
	for n := range 17 {
		for _, p := range []api.Plane{of(100, 10), of(0, 0), of(1, 0)} {
			for i, ask := range asked(x, p, uint64(max(0, n-1)), 0) {
				room := append(upTo(16)[16-n:], -1, -2, -3, -4)
				ids, own := room[:n], slices.Clone(room)
				left, right := ask(ids)
				wantLeft, wantRight := slices.Clone(left), slices.Clone(right)
				otherLeft, otherRight := ask(ids)
				spoil(left)
				if !slices.Equal(right, wantRight) || !slices.Equal(otherLeft, wantLeft) {
					t.Fatal(n, p, i, "the left side shares memory")
				}
				spoil(right)
				if !slices.Equal(otherRight, wantRight) || !slices.Equal(room, own) {
					t.Fatal(n, p, i, "a side shares memory")
				}
				if left, right := ask(ids); !slices.Equal(left, wantLeft) || !slices.Equal(right, wantRight) {
					t.Fatal(n, p, i, "what was answered ahead tells in what is answered next")
				}
				spoil(room)
				if !slices.Equal(otherLeft, wantLeft) || !slices.Equal(otherRight, wantRight) {
					t.Fatal(n, p, i, "ids are kept")
				}
			}
		}
	}
}

// The plane that is answered is nobody else's: neither the items' nor that of another split.
func TestPlanesAreNewMemory(t *testing.T) {
	items := [][]int32{{1, 2, 3}, {4, 5, 6}, {-7, 8, -9}}
	x := made(t, 3, items...)
	for _, ids := range [][]int{nil, {1}, {0, 1, 2}, {1, 1, 1}, {2, 0}} {
		first := holdChoose(t, x, items, ids, 1, 1)
		second := holdChoose(t, x, items, ids, 1, 1)
		for i := range first.Plane.Normal {
			first.Plane.Normal[i] = 99
		}
		_ = append(first.Plane.Normal, 98, 97)
		if !same(second, chosen(3, items, ids, []uint64{1, 1})) {
			t.Error(ids, second)
		}
		holdChoose(t, x, items, ids, 1, 1)
		if len(plane.Flat(3).Normal) != 3 || !plane.Same(plane.Flat(3), of(0, 0, 0, 0)) {
			t.Error("the flat plane is another one")
		}
		holdItems(t, x, items)
	}
}

func holdItems(t *testing.T, x *data.Items, items [][]int32) {
	t.Helper()
	if x.Len() != len(items) {
		t.Fatal(x.Len())
	}
	for id, v := range x.All() {
		if !slices.Equal(v, items[id]) {
			t.Fatal(id, v)
		}
	}
}

func TestNoCallChangesWhatIsHandedIn(t *testing.T) {
	items := lopsided()
	x := made(t, 1, items...)
	room, normal := []int{3, 14, 0, 99, -1, 15, 15, 7, 8, 9}, []int32{10, 20, 30, 40}
	ids, p := room[:7], of(100, normal[:2]...)
	ownRoom, ownNormal := slices.Clone(room), slices.Clone(normal)
	draws := []uint64{1, 0, 2, 2, 3}
	for range 3 {
		for _, ask := range asked(x, p, draws...) {
			ask(ids)
			ask(ids[:2])
			ask(ids[:0])
		}
		Good(ids, room[:2])
		Good(room[:1], ids)
	}
	if !slices.Equal(room, ownRoom) || !slices.Equal(normal, ownNormal) || p.Offset != 100 || len(p.Normal) != 2 {
		t.Error(room, p)
	}
	if !slices.Equal(draws, []uint64{1, 0, 2, 2, 3}) {
		t.Error(draws)
	}
	holdItems(t, x, items)
}

// Items that come later are parted, too: nothing of the items is kept from call to call.
func TestPartOfItemsThatCameSince(t *testing.T) {
	x := made(t, 1, []int32{5})
	ids := []int{0, 1, 2}
	if left, right := Part(x, ids, of(0, 1)); len(left) != 0 || !slices.Equal(right, ids) {
		t.Error(left, right)
	}
	x.Add([]int32{-5})
	if left, right := Part(x, ids, of(0, 1)); !slices.Equal(left, []int{1}) || !slices.Equal(right, []int{0, 2}) {
		t.Error(left, right)
	}
	if s := Choose(x, ids, rng.Script(1)); !same(s, Split{of(0, -10), []int{0}, []int{1, 2}, 1}) {
		t.Error(s)
	}
}

// Rule 4: who asks side by side is answered as one who asks alone.
func TestAskedSideBySide(t *testing.T) {
	r := rand.New(rand.NewSource(9))
	items := drawnItems(r, 40, 5, mostCoord)
	x, ids := made(t, 5, items...), drawnIds(r, 60, 40, true)
	want := chosen(5, items, ids, mixed(3))
	left, right := partedBy(items, ids, want.Plane)
	wrongs := make([]int, 8)
	var ended sync.WaitGroup
	for w := range wrongs {
		ended.Go(func() {
			for range 100 {
				s := Choose(x, ids, rng.Mix(3))
				a, b := Part(x, ids, want.Plane)
				if !same(s, want) || !slices.Equal(a, left) || !slices.Equal(b, right) {
					wrongs[w]++
				}
				for _, l := range [][]int{s.Left, s.Right, a, b} {
					spoil(l)
				}
			}
		})
	}
	ended.Wait()
	if !slices.Equal(wrongs, make([]int, 8)) {
		t.Error(wrongs)
	}
}
