package marks

import (
	"cmp"
	"iter"
	"math"
	"math/rand"
	"slices"
	"strings"
	"testing"
)

// model is a set by the chapter's words: which ids were met, in a list, in the order in which they were.
type model struct {
	n   int
	met []int
}

func (m *model) add(id int) bool {
	if id < 0 || id >= m.n || slices.Contains(m.met, id) {
		return false
	}
	m.met = append(m.met, id)
	return true
}

// rising are those that were met, put in order by counting how many are lower.
func (m *model) rising() []int {
	l := make([]int, len(m.met))
	for _, x := range m.met {
		lower := 0
		for _, y := range m.met {
			if y < x {
				lower++
			}
		}
		l[lower] = x
	}
	return l
}

// agree holds all that a set can be asked against the model, and asks for these ids and all that were met.
func agree(t *testing.T, s *Set, m *model, probes []int) {
	t.Helper()
	for _, id := range slices.Concat(probes, m.met) {
		if got, want := s.Has(id), slices.Contains(m.met, id); got != want {
			t.Fatalf("of %d, met %v: Has(%d) is %v", m.n, m.met, id, got)
		}
	}
	if s.Len() != len(m.met) {
		t.Fatalf("of %d, met %v: Len is %d", m.n, m.met, s.Len())
	}
	if l := slices.Collect(s.All()); !slices.Equal(l, m.rising()) {
		t.Fatalf("of %d, met %v: All is %v", m.n, m.met, l)
	}
}

// edges are ids around the ends of a set of n, around the ends of words, and far away.
func edges(n int) []int {
	l := []int{0, 1, -1, -2, 62, 63, 64, 65, 127, 128, 129, -63, -64, -65, 1 << 40, -1 << 40, math.MaxInt, math.MaxInt - 1, math.MinInt, math.MinInt + 1}
	if n > math.MinInt+64 && n < math.MaxInt-64 {
		l = append(l, n-1, n, n+1, n-64, n+64, -n)
	}
	return l
}

// sizes are below 0, few, around what fills one word, two and more, and far more than there is room for.
func sizes() []int {
	return []int{math.MinInt, -1 << 40, -65, -64, -1, 0, 1, 2, 3, 31, 32, 33, 62, 63, 64, 65, 66, 126, 127, 128, 129, 191, 192, 193, 1000, 1 << 20, 1 << 31, 1 << 40, math.MaxInt - 1, math.MaxInt}
}

// lists are all lists of numbers from low on below high, of at most so many.
func lists(low, high, most int) [][]int {
	all := [][]int{nil}
	last := all
	for range most {
		var next [][]int
		for _, l := range last {
			for x := low; x < high; x++ {
				next = append(next, append(slices.Clone(l), x))
			}
		}
		all = append(all, next...)
		last = next
	}
	return all
}

// run adds ids one by one, and holds the set against the model ahead of each and behind all of them.
func run(t *testing.T, n int, ids, probes []int) {
	t.Helper()
	s, m := New(n), &model{n: n}
	for i, id := range ids {
		agree(t, s, m, probes)
		if got, want := s.Add(id), m.add(id); got != want {
			t.Fatalf("of %d, Add of %v: %v at place %d", n, ids[:i+1], got, i)
		}
	}
	agree(t, s, m, probes)
}

// P9.1: what is asked of none: a new set, of any number, has met none.
func TestNewHasMetNone(t *testing.T) {
	for _, n := range sizes() {
		agree(t, New(n), &model{n: n}, edges(n))
	}
}

// P9.1: a set of 0, or of a number below 0, meets nothing, whatever is added.
func TestSetOfNothing(t *testing.T) {
	for _, n := range []int{0, -1, -2, -64, -65, math.MinInt} {
		s := New(n)
		for _, id := range edges(n) {
			if s.Add(id) || s.Add(id) || s.Has(id) {
				t.Errorf("of %d: %d was met", n, id)
			}
		}
		if s.Len() != 0 || len(slices.Collect(s.All())) != 0 {
			t.Errorf("of %d: Len is %d", n, s.Len())
		}
	}
}

// P9.1: all short rows of ids, of all small sets.
func TestSetShortRows(t *testing.T) {
	for n := -1; n <= 3; n++ {
		for _, ids := range lists(-1, 5, 5) {
			run(t, n, ids, []int{-2, -1, 0, 1, 2, 3, 4, 5, 63, 64})
		}
	}
}

// P9.1: ids at the edges of sets of all sizes, each once, twice, and all again.
func TestSetEdges(t *testing.T) {
	for _, n := range sizes() {
		ids := edges(n)
		run(t, n, ids, ids)
		run(t, n, slices.Concat(ids, ids), nil)
		for _, id := range ids {
			run(t, n, []int{id, id, id}, ids)
		}
	}
}

// P9.1: the ids of one set, told one by one: the first 0, the last n - 1, none at n.
func TestSetEnds(t *testing.T) {
	for _, n := range []int{1, 2, 63, 64, 65, 127, 128, 129, 1 << 20, math.MaxInt} {
		s := New(n)
		if s.Add(n) || s.Add(-1) || s.Has(n) || s.Has(-1) || s.Len() != 0 {
			t.Errorf("of %d: n or -1 was met", n)
		}
		if !s.Add(n-1) || !s.Has(n-1) || s.Add(n-1) || s.Len() != 1 {
			t.Errorf("of %d: n - 1 wasn't met once", n)
		}
		if first := s.Add(0); first != (n > 1) || !s.Has(0) || s.Has(n) || s.Has(-1) {
			t.Errorf("of %d: Add(0) is %v", n, first)
		}
	}
}

// P9.1: drawn ids in any order, again and again, some of them outside.
func TestSetDrawn(t *testing.T) {
	r := rand.New(rand.NewSource(9))
	for _, n := range []int{1, 2, 5, 63, 64, 65, 127, 128, 129, 300} {
		for range 5 {
			ids := make([]int, 200)
			for i := range ids {
				ids[i] = r.Intn(n+6) - 3
			}
			run(t, n, ids, nil)
		}
	}
}

// P9.1: ids drawn far from each other are told rising, too.
func TestSetDrawnFar(t *testing.T) {
	r := rand.New(rand.NewSource(99))
	for _, n := range []int{1 << 20, 1 << 40, math.MaxInt} {
		ids := make([]int, 150)
		for i := range ids {
			ids[i] = r.Intn(n)
		}
		run(t, n, slices.Concat(ids, ids[:50]), edges(n))
	}
}

// P9.1: sets in which all are met, filled in rising, falling and mixed order.
func TestSetFull(t *testing.T) {
	r := rand.New(rand.NewSource(90))
	for _, n := range []int{1, 2, 63, 64, 65, 127, 128, 129, 1000} {
		rise := make([]int, n)
		for i := range rise {
			rise[i] = i
		}
		fall := slices.Clone(rise)
		slices.Reverse(fall)
		for _, ids := range [][]int{rise, fall, r.Perm(n)} {
			s := New(n)
			for i, id := range ids {
				if s.Has(id) || !s.Add(id) || s.Add(id) || !s.Has(id) || s.Len() != i+1 {
					t.Fatalf("of %d: %d at place %d", n, id, i)
				}
			}
			if l := slices.Collect(s.All()); !slices.Equal(l, rise) {
				t.Fatalf("of %d, all met: All is %v", n, l)
			}
			if s.Add(n) || s.Add(-1) || s.Len() != n {
				t.Fatalf("of %d, all met: one more", n)
			}
		}
	}
}

// take tells at most so many of a range, and breaks off behind them.
func take(l iter.Seq[int], most int) []int {
	var got []int
	if most == 0 {
		return got
	}
	for x := range l {
		got = append(got, x)
		if len(got) == most {
			break
		}
	}
	return got
}

// P9.1, rule 8: All is broken off at any place, and ranged over again.
func TestAllBrokenOff(t *testing.T) {
	s := New(200)
	for _, id := range []int{199, 64, 0, 63, 1, 128, 127, 65, 130} {
		s.Add(id)
	}
	want := []int{0, 1, 63, 64, 65, 127, 128, 130, 199}
	all := s.All()
	for most := range len(want) + 2 {
		if got := take(all, most); !slices.Equal(got, want[:min(most, len(want))]) {
			t.Errorf("the first %d are %v", most, got)
		}
		if got := slices.Collect(all); !slices.Equal(got, want) {
			t.Errorf("behind one broken off at %d: %v", most, got)
		}
	}
	if s.Len() != len(want) {
		t.Errorf("Len is %d", s.Len())
	}
}

// P9.1, rule 8: ranges of one set that are nested don't meddle.
func TestAllNested(t *testing.T) {
	s := New(100)
	for _, id := range []int{70, 3, 99} {
		s.Add(id)
	}
	all := s.All()
	var got []int
	for a := range all {
		for b := range all {
			got = append(got, a+b)
		}
	}
	if !slices.Equal(got, []int{6, 73, 102, 73, 140, 169, 102, 169, 198}) {
		t.Error(got)
	}
}

// P9.1, rules 4 and 8: All hangs on what was met ahead of it, and tells the same again, whatever is met since or within.
func TestAllIsOfWhatWasMetAhead(t *testing.T) {
	s := New(300)
	s.Add(5)
	s.Add(70)
	all := s.All()
	s.Add(6)
	s.Add(200)
	for range 2 {
		var got []int
		for id := range all {
			got = append(got, id)
			s.Add(id + 1)
			s.Add(id + 128)
		}
		if !slices.Equal(got, []int{5, 70}) {
			t.Error(got)
		}
	}
	if got := slices.Collect(s.All()); !slices.Equal(got, []int{5, 6, 70, 71, 133, 198, 200}) {
		t.Error(got)
	}
}

// P9.1: to ask changes nothing.
func TestAskingAddsNothing(t *testing.T) {
	s := New(130)
	s.Add(64)
	for range 3 {
		for _, id := range edges(130) {
			if s.Has(id) != (id == 64) {
				t.Errorf("Has(%d)", id)
			}
		}
		if got := slices.Collect(s.All()); !slices.Equal(got, []int{64}) || s.Len() != 1 {
			t.Error(got, s.Len())
		}
	}
	if !s.Add(0) || !s.Add(129) {
		t.Error("met by asking")
	}
}

// P9.1: sets know nothing of each other.
func TestSetsApart(t *testing.T) {
	a, b := New(70), New(70)
	a.Add(3)
	b.Add(69)
	if a.Has(69) || b.Has(3) || !a.Add(69) || !b.Add(3) || a.Len() != 2 || b.Len() != 2 {
		t.Error("shared")
	}
}

// counted is Unique by the chapter's words: again and again the lowest that is higher than the last one.
func counted[T cmp.Ordered](l []T) []T {
	var got []T
	for {
		found := false
		var next T
		for _, x := range l {
			higher := len(got) == 0 || x > got[len(got)-1]
			if higher && (!found || x < next) {
				found, next = true, x
			}
		}
		if !found {
			return got
		}
		got = append(got, next)
	}
}

// unique holds Unique of a list, with spare room behind it, against the words, and the list against what it was.
func unique[T cmp.Ordered](t *testing.T, l []T) {
	t.Helper()
	var other T
	room := append(slices.Clone(l), other, other, other)
	was := slices.Clone(room)
	got := Unique(room[:len(l)]...)
	if want := counted(l); !slices.Equal(got, want) {
		t.Fatalf("Unique(%v) is %v, not %v", l, got, want)
	}
	if !slices.Equal(room, was) {
		t.Fatalf("Unique(%v) made it %v", was, room)
	}
}

// P9.2: the chapter's example.
func TestUniqueExample(t *testing.T) {
	if got := Unique(3, 1, 3); !slices.Equal(got, []int{1, 3}) {
		t.Error(got)
	}
}

// P9.2: Unique of nothing is nothing.
func TestUniqueOfNothing(t *testing.T) {
	if len(Unique[int]()) != 0 || len(Unique([]string{}...)) != 0 || len(Unique([]float64(nil)...)) != 0 {
		t.Error("something")
	}
}

// P9.2: all short lists.
func TestUniqueShortLists(t *testing.T) {
	for _, l := range lists(-2, 3, 6) {
		unique(t, l)
	}
}

// P9.2: long lists: the same ones, rising, falling, mixed, with few and with many that are unlike.
func TestUniqueLongLists(t *testing.T) {
	r := rand.New(rand.NewSource(92))
	for _, n := range []int{11, 12, 13, 50, 51, 300} {
		for _, below := range []int{1, 2, 7, n, 1 << 40} {
			mixed := make([]int, n)
			for i := range mixed {
				mixed[i] = r.Intn(below) - below/2
			}
			rise := slices.Sorted(slices.Values(mixed))
			fall := slices.Clone(rise)
			slices.Reverse(fall)
			unique(t, mixed)
			unique(t, rise)
			unique(t, fall)
		}
	}
}

type name string

// P9.2: the greatest and the least ones, and several types.
func TestUniqueTypes(t *testing.T) {
	unique(t, []int{math.MaxInt, math.MinInt, 0, -1, math.MaxInt, math.MinInt, math.MinInt + 1, math.MaxInt - 1})
	unique(t, []int8{127, -128, 0, 127, -1, -128})
	unique(t, []int32{math.MaxInt32, math.MinInt32, math.MaxInt32, 1})
	unique(t, []uint64{math.MaxUint64, 0, 1 << 63, math.MaxUint64, 1})
	unique(t, []byte{255, 0, 128, 127, 255})
	unique(t, []float64{math.Inf(1), math.Inf(-1), 0, -0.5, math.MaxFloat64, math.Inf(1), math.SmallestNonzeroFloat64})
	unique(t, []string{"b", "a", "b", "", "ab", "a\x00", "\xff", "é", "B", ""})
	unique(t, []name{"y", "x", "y"})
	unique(t, []string{strings.Repeat("a", 1000) + "b", strings.Repeat("a", 1000), strings.Repeat("a", 1000)})
}

// P9.2: 0 and -0 are the same number.
func TestUniqueZeros(t *testing.T) {
	minus := math.Copysign(0, -1)
	for _, l := range [][]float64{{0, minus}, {minus, 0}, {minus, 0, minus, 0, minus}} {
		if got := Unique(l...); len(got) != 1 || got[0] != 0 {
			t.Error(l, got)
		}
	}
}

// P9.2: with a NaN there is an end.
func TestUniqueOfNaNEnds(t *testing.T) {
	l := make([]float64, 100)
	for i := range l {
		l[i] = float64(i * 37 % 50)
		if i%3 == 0 {
			l[i] = math.NaN()
		}
	}
	Unique(l...)
	Unique(math.NaN())
}

// P9.2, rule 3: what is answered is new memory.
func TestUniqueIsNewMemory(t *testing.T) {
	for _, l := range [][]int{{1}, {1, 2, 3}, {3, 3, 3}, {2, 1}} {
		was := slices.Clone(l)
		first := Unique(l...)
		want := slices.Clone(first)
		second := Unique(l...)
		for i := range first {
			first[i] = 99
		}
		_ = append(first, 98)
		if !slices.Equal(l, was) || !slices.Equal(second, want) {
			t.Errorf("%v is %v, and %v", was, l, second)
		}
		l[0] = 77
		if !slices.Equal(second, want) {
			t.Errorf("kept: %v", second)
		}
	}
}

// covered is Covers by the chapter's words: how often each id is there.
func covered(n int, lists [][]int) bool {
	for id := range max(n, 0) {
		times := 0
		for _, l := range lists {
			for _, x := range l {
				if x == id {
					times++
				}
			}
		}
		if times != 1 {
			return false
		}
	}
	for _, l := range lists {
		for _, x := range l {
			if x < 0 || x >= n {
				return false
			}
		}
	}
	return true
}

// copies are lists that share no memory with these.
func copies(lists [][]int) [][]int {
	var all [][]int
	for _, l := range lists {
		all = append(all, slices.Clone(l))
	}
	return all
}

// covers holds Covers of lists against the words, and the lists against what they were.
func covers(t *testing.T, n int, lists [][]int) {
	t.Helper()
	was := copies(lists)
	if got, want := Covers(n, slices.Values(lists)), covered(n, lists); got != want {
		t.Fatalf("Covers(%d, %v) is %v", n, lists, got)
	}
	if !slices.EqualFunc(lists, was, slices.Equal) {
		t.Fatalf("Covers(%d, %v) made it %v", n, was, lists)
	}
}

// P9.2: an id that lacks, that is there twice, and that isn't one of them.
func TestCoversCases(t *testing.T) {
	for _, x := range []struct {
		n     int
		lists [][]int
		want  bool
	}{
		{0, nil, true},
		{0, [][]int{{}, nil}, true},
		{0, [][]int{{0}}, false},
		{0, [][]int{{-1}}, false},
		{-1, nil, true},
		{-3, [][]int{{}, {}}, true},
		{-3, [][]int{{-3}}, false},
		{-3, [][]int{{}, {0}}, false},
		{math.MinInt, nil, true},
		{math.MinInt, [][]int{{math.MinInt}}, false},
		{1, nil, false},
		{1, [][]int{{}}, false},
		{1, [][]int{{0}}, true},
		{1, [][]int{{}, {0}, nil}, true},
		{1, [][]int{{0, 0}}, false},
		{1, [][]int{{0}, {0}}, false},
		{1, [][]int{{1}}, false},
		{1, [][]int{{0, 1}}, false},
		{1, [][]int{{0}, {-1}}, false},
		{3, [][]int{{2}, {}, {0, 1}}, true},
		{3, [][]int{{2, 1, 0}}, true},
		{3, [][]int{{1}, {2}, {0}}, true},
		{3, [][]int{{1, 2}}, false},
		{3, [][]int{{1, 2, 1}}, false},
		{3, [][]int{{1, 2, 3}}, false},
		{3, [][]int{{1, 2, 0}, {0}}, false},
		{3, [][]int{{1, 2, 0}, {3}}, false},
		{3, [][]int{{-1, 1, 2, 0}}, false},
		{math.MaxInt, nil, false},
		{math.MaxInt, [][]int{{0, math.MaxInt - 1}, {1 << 40}}, false},
	} {
		if got := Covers(x.n, slices.Values(x.lists)); got != x.want {
			t.Errorf("Covers(%d, %v) is %v", x.n, x.lists, got)
		}
	}
}

// P9.2: all short rows of ids, as one list and cut into two at any place, of all small n.
func TestCoversShortLists(t *testing.T) {
	for n := -1; n <= 4; n++ {
		for _, l := range lists(-1, 5, 5) {
			covers(t, n, [][]int{l})
			for i := range len(l) + 1 {
				covers(t, n, [][]int{l[:i], l[i:]})
			}
		}
	}
}

// parted is a list, cut into lists at drawn places, with empty ones among them.
func parted(r *rand.Rand, l []int) [][]int {
	var all [][]int
	for len(l) > 0 {
		i := r.Intn(min(len(l), 40) + 1)
		all = append(all, slices.Clone(l[:i]))
		l = l[i:]
	}
	return append(all, nil)
}

// P9.2: all ids in drawn lists, then with one that lacks, one that is there twice, and one that isn't of them.
func TestCoversDrawn(t *testing.T) {
	r := rand.New(rand.NewSource(93))
	for _, n := range []int{1, 2, 63, 64, 65, 127, 128, 129, 500} {
		for range 10 {
			whole := parted(r, r.Perm(n))
			if !Covers(n, slices.Values(whole)) {
				t.Fatalf("Covers(%d, %v) is false", n, whole)
			}
			for _, other := range []int{n - 1, n + 1, n + 64, n - 64} {
				covers(t, other, whole)
			}
			for _, more := range []int{0, n - 1, n, -1, r.Intn(n), math.MaxInt, math.MinInt} {
				covers(t, n, append(copies(whole), []int{more}))
				covers(t, n, append([][]int{{more}}, whole...))
			}
			l := r.Perm(n)
			covers(t, n, parted(r, l[1:]))
			l[0] = l[n-1]
			covers(t, n, parted(r, l))
			l[0] = n
			covers(t, n, parted(r, l))
		}
	}
}

// P9.2: lists that are told out of one memory, one behind the other.
func TestCoversOneMemory(t *testing.T) {
	told := func(yield func([]int) bool) {
		l := make([]int, 1)
		for id := range 70 {
			l[0] = id
			if !yield(l) {
				return
			}
		}
	}
	if !Covers(70, told) || Covers(69, told) || Covers(71, told) {
		t.Error("one memory")
	}
}

// P9.2, rule 5: of lists that go on for as long as they are asked for, it is told once it is sure.
func TestCoversEnds(t *testing.T) {
	endless := func(yield func([]int) bool) {
		for id := 0; yield([]int{id}); id++ {
		}
	}
	for _, n := range []int{-1, 0, 1, 64, 1000} {
		if Covers(n, endless) {
			t.Errorf("Covers(%d, ..) is true", n)
		}
	}
}

// P9.3: Unique of ids is All of a set to which they were added.
func TestUniqueIsAllOfASet(t *testing.T) {
	same := func(ids []int, n int) {
		t.Helper()
		s := New(n)
		for _, id := range ids {
			s.Add(id)
		}
		if got, want := Unique(ids...), slices.Collect(s.All()); !slices.Equal(got, want) || s.Len() != len(got) {
			t.Fatalf("of %v: Unique is %v, All is %v", ids, got, want)
		}
	}
	for _, ids := range lists(0, 5, 6) {
		same(ids, 5)
	}
	r := rand.New(rand.NewSource(94))
	for _, n := range []int{1, 63, 64, 65, 129, 1000, 1 << 40, math.MaxInt} {
		for _, count := range []int{0, 1, 2, 50, 500} {
			ids := make([]int, count)
			for i := range ids {
				ids[i] = r.Intn(n)
			}
			same(append(ids, 0, n-1), n)
			same(slices.Concat(ids, ids), n)
		}
	}
}
