package topk

import (
	"iter"
	"math"
	"math/rand"
	"slices"
	"strings"
	"testing"

	"shelterbelt/api"
	"shelterbelt/heap"
	"shelterbelt/order"
)

// item is a number that is ordered by, and a tag that isn't: so it can be told which of those that are alike by first is kept.
type item struct{ key, tag int }

func lower(a, b item) bool { return a.key < b.key }

func higher(a, b item) bool { return a.key > b.key }

func less(a, b int) bool { return a < b }

// firsts are those by which items are kept in these tests: the last one tells all of them alike.
func firsts() []func(a, b item) bool {
	return []func(a, b item) bool{lower, higher, func(a, b item) bool { return false }}
}

// tagged are items of these keys, whose tags rise.
func tagged(keys ...int) []item {
	l := make([]item, len(keys))
	for i, k := range keys {
		l[i] = item{k, i + 1}
	}
	return l
}

// keyLists are all lists of keys below some number, of at most so many.
func keyLists(below, most int) [][]int {
	all := [][]int{nil}
	last := all
	for range most {
		var next [][]int
		for _, l := range last {
			for k := range below {
				next = append(next, append(slices.Clone(l), k))
			}
		}
		all = append(all, next...)
		last = next
	}
	return all
}

// drawn are keys below some number, so many.
func drawn(r *rand.Rand, n, below int) []int {
	l := make([]int, n)
	for i := range l {
		l[i] = r.Intn(below)
	}
	return l
}

// longLists are keys that rise, fall, are mixed and are the same, more or less of them alike.
func longLists() [][]int {
	r := rand.New(rand.NewSource(8))
	var all [][]int
	for _, n := range []int{7, 8, 9, 16, 17, 33, 100, 300} {
		for _, below := range []int{1, 2, 5, n, 1 << 40} {
			mixed := drawn(r, n, below)
			rise := slices.Sorted(slices.Values(mixed))
			fall := slices.Clone(rise)
			slices.Reverse(fall)
			all = append(all, mixed, rise, fall)
		}
	}
	return all
}

// mosts are the edges of how many may be kept, of so many that are offered.
func mosts(n int) []int {
	return []int{math.MinInt, -4, -1, 0, 1, 2, n / 2, n - 1, n, n + 1, 2*n + 3, math.MaxInt}
}

// placed is a list in order, each item put where it belongs by a count of those that belong ahead of it: all that are first of it, and of those of which neither is first the ones that came ahead.
func placed(first func(a, b item) bool, l []item) []item {
	s := make([]item, len(l))
	for i, x := range l {
		at := 0
		for k, y := range l {
			if first(y, x) || k < i && !first(x, y) {
				at++
			}
		}
		s[at] = x
	}
	return s
}

// beginning is what a selector must keep of all that was offered.
func beginning(first func(a, b item) bool, most int, offered []item) []item {
	return placed(first, offered)[:min(max(most, 0), len(offered))]
}

// checkKept holds List, Last and Len to what must be kept.
func checkKept[T comparable](t *testing.T, s *Selector[T], want []T) {
	t.Helper()
	if s.Len() != len(want) {
		t.Fatal("Len", s.Len(), "and not", len(want))
	}
	var last T
	if len(want) > 0 {
		last = want[len(want)-1]
	}
	if x, ok := s.Last(); x != last || ok != (len(want) > 0) {
		t.Fatal("Last", x, ok, "of", want)
	}
	if l := s.List(); !slices.Equal(l, want) {
		t.Fatal("List", l, "and not", want)
	}
}

// P8.1: New and Offer

func TestExample(t *testing.T) {
	s := New(less, 2)
	for i, x := range []struct {
		n    int
		kept bool
		list []int
	}{{3, true, []int{3}}, {1, true, []int{1, 3}}, {2, true, []int{1, 2}}} {
		if kept := s.Offer(x.n); kept != x.kept {
			t.Error(i, kept)
		}
		checkKept(t, s, x.list)
	}
}

// checkOffers offers one behind the other, and holds the selector to the chapter's words behind each of them.
func checkOffers(t *testing.T, first func(a, b item) bool, most int, l []item) {
	t.Helper()
	s := New(first, most)
	checkKept(t, s, nil)
	for i, x := range l {
		want := beginning(first, most, l[:i+1])
		if kept := s.Offer(x); kept != slices.Contains(want, x) {
			t.Fatal("Offer", x, kept, "most", most, "of", l[:i+1])
		}
		checkKept(t, s, want)
	}
}

func TestOfferKeepsTheFirstOnes(t *testing.T) {
	for _, first := range firsts() {
		for _, keys := range keyLists(3, 6) {
			for most := -1; most <= len(keys)+1; most++ {
				checkOffers(t, first, most, tagged(keys...))
			}
		}
	}
}

func TestOfferOfLongLists(t *testing.T) {
	for _, first := range firsts() {
		for _, keys := range longLists() {
			if len(keys) > 17 {
				continue
			}
			for _, most := range mosts(len(keys)) {
				checkOffers(t, first, most, tagged(keys...))
			}
		}
	}
}

// All orders in which six unlike ones come end as one.
func TestOfferOfAllOrdersOfUnlikeOnes(t *testing.T) {
	want := []int{0, 1, 2, 3, 4, 5}
	for _, keys := range keyLists(6, 6) {
		if len(keys) < 6 || len(slices.Compact(slices.Sorted(slices.Values(keys)))) < 6 {
			continue
		}
		for most := range 8 {
			s := New(less, most)
			for _, k := range keys {
				s.Offer(k)
			}
			checkKept(t, s, want[:min(most, 6)])
		}
	}
}

// Rising: the first ones are kept at once, and nobody behind them is.
func TestOfferOfRisingOnes(t *testing.T) {
	s := New(less, 5)
	for x := range 50 {
		if kept := s.Offer(x); kept != (x < 5) {
			t.Fatal(x, kept)
		}
	}
	checkKept(t, s, []int{0, 1, 2, 3, 4})
}

// Falling: each is kept, and pushed out by those behind it.
func TestOfferTellsTrueOfOneThatIsPushedOutLater(t *testing.T) {
	s := New(less, 3)
	for x := 50; x > 0; x-- {
		if !s.Offer(x) {
			t.Fatal(x)
		}
		if l := s.List(); l[0] != x || x <= 47 && slices.Contains(l, x+3) {
			t.Fatal(x, l)
		}
	}
	checkKept(t, s, []int{1, 2, 3})
}

// One that was pushed out, or never kept, may be offered again: it is one more.
func TestOfferAgain(t *testing.T) {
	s := New(less, 2)
	for i, x := range []struct {
		n    int
		kept bool
		list []int
	}{{5, true, []int{5}}, {5, true, []int{5, 5}}, {5, false, []int{5, 5}}, {4, true, []int{4, 5}}, {5, false, []int{4, 5}}, {4, true, []int{4, 4}}, {4, false, []int{4, 4}}, {5, false, []int{4, 4}}} {
		if kept := s.Offer(x.n); kept != x.kept {
			t.Error(i, kept)
		}
		checkKept(t, s, x.list)
	}
}

// P8.1: those of which neither is first

func TestOfAllTheSameTheOnesAheadAreKept(t *testing.T) {
	for n := range 40 {
		for most := range 12 {
			s := New(lower, most)
			l := tagged(make([]int, n)...)
			for i, x := range l {
				if kept := s.Offer(x); kept != (i < most) {
					t.Fatal(n, most, i, kept)
				}
			}
			checkKept(t, s, l[:min(n, most)])
		}
	}
}

// Where one of some that are alike must give way, it is the one that was offered last.
func TestOfAlikeOnesTheLastOneGivesWay(t *testing.T) {
	s := New(lower, 4)
	for _, x := range []item{{5, 1}, {5, 2}, {5, 3}, {5, 4}, {5, 5}} {
		s.Offer(x)
	}
	for i, want := range [][]item{
		{{3, 10}, {5, 1}, {5, 2}, {5, 3}},
		{{3, 10}, {3, 11}, {5, 1}, {5, 2}},
		{{3, 10}, {3, 11}, {3, 12}, {5, 1}},
		{{3, 10}, {3, 11}, {3, 12}, {3, 13}},
	} {
		if !s.Offer(item{3, 10 + i}) {
			t.Error(i)
		}
		checkKept(t, s, want)
	}
	if s.Offer(item{3, 14}) {
		t.Error("one that is alike came behind those that are kept")
	}
	if !s.Offer(item{2, 15}) {
		t.Error("one that is first of all wasn't kept")
	}
	checkKept(t, s, []item{{2, 15}, {3, 10}, {3, 11}, {3, 12}})
}

// The order of those that are alike is the one in which they came, not that of what else they are.
func TestAlikeOnesStandAsTheyCame(t *testing.T) {
	s := New(lower, 4)
	for _, tag := range []int{9, 2, 7, 4, 1} {
		s.Offer(item{6, tag})
	}
	checkKept(t, s, []item{{6, 9}, {6, 2}, {6, 7}, {6, 4}})
	s.Offer(item{6, 0})
	s.Offer(item{5, 8})
	s.Offer(item{5, 3})
	checkKept(t, s, []item{{5, 8}, {5, 3}, {6, 9}, {6, 2}})
}

// P8.1: most

func TestMostBelowZeroOrZeroKeepsNone(t *testing.T) {
	for _, most := range []int{0, -1, -4, math.MinInt32, math.MinInt} {
		s := New(less, most)
		checkKept(t, s, nil)
		for x := range 20 {
			if s.Offer(-x) {
				t.Fatal(most, x)
			}
			checkKept(t, s, nil)
		}
	}
}

func TestMostOneKeepsTheLeast(t *testing.T) {
	s := New(lower, 1)
	for i, x := range []struct {
		key  int
		kept bool
		tag  int
	}{{7, true, 0}, {7, false, 0}, {9, false, 0}, {3, true, 3}, {3, false, 3}, {4, false, 3}, {2, true, 6}} {
		if kept := s.Offer(item{x.key, i}); kept != x.kept {
			t.Error(i, kept)
		}
		if last, ok := s.Last(); last.tag != x.tag || !ok || s.Len() != 1 || len(s.List()) != 1 || s.List()[0] != last {
			t.Error(i, last, ok, s.List())
		}
	}
}

// However many may be kept, room is made for no more than are.
func TestMostOfVeryMany(t *testing.T) {
	for _, most := range []int{1 << 40, math.MaxInt - 1, math.MaxInt} {
		s := New(less, most)
		for _, x := range []int{3, 1, 2} {
			if !s.Offer(x) {
				t.Error(most, x)
			}
		}
		checkKept(t, s, []int{1, 2, 3})
	}
}

// P8.1: List, Last and Len at any time

// Whether it is asked between offers or not plays no part, nor how often.
func TestAskingPlaysNoPart(t *testing.T) {
	r := rand.New(rand.NewSource(88))
	for _, first := range firsts() {
		for _, keys := range longLists() {
			l := tagged(keys...)
			most := 1 + r.Intn(len(l))
			quiet, asked := New(first, most), New(first, most)
			for _, x := range l {
				if quiet.Offer(x) != asked.Offer(x) {
					t.Fatal("unlike", x)
				}
				ask(asked, r.Intn(8))
			}
			want := beginning(first, most, l)
			for range 3 {
				checkKept(t, quiet, want)
				checkKept(t, asked, want)
			}
		}
	}
}

// ask asks the things that a number's bits say.
func ask(s *Selector[item], which int) {
	if which&1 > 0 {
		s.List()
	}
	if which&2 > 0 {
		s.Last()
	}
	if which&4 > 0 {
		s.Len()
	}
}

// A list that was told is its caller's: who changes it, or puts more behind it, changes nothing else.
func TestListIsNewMemory(t *testing.T) {
	for n := range 20 {
		s := New(less, 10)
		for k := range n {
			s.Offer(k * 7 % 20)
		}
		one, two := s.List(), s.List()
		want := slices.Clone(one)
		for i := range one {
			one[i] = -9
		}
		one = append(one, -8)
		one = append(one[:0], -7)
		if !slices.Equal(two, want) {
			t.Fatal(n, two, "and not", want)
		}
		checkKept(t, s, want)
		s.Offer(-1)
		s.Offer(99)
		if !slices.Equal(two, want) || one[0] != -7 {
			t.Fatal(n, two, one, "behind an offer")
		}
		kept := append([]int{-1}, want...)
		if len(want) < 9 {
			kept = append(kept, 99)
		}
		checkKept(t, s, kept[:min(10, len(kept))])
	}
}

// Selectors are apart from each other, by one first too.
func TestSelectorsAreApart(t *testing.T) {
	a, b := New(less, 2), New(less, 3)
	for x := range 5 {
		a.Offer(x)
		b.Offer(-x)
	}
	checkKept(t, a, []int{0, 1})
	checkKept(t, b, []int{-4, -3, -2})
}

// P8.1: what is asked of none

// checkNone holds a selector that keeps none to what is told of none, again and again.
func checkNone[T comparable](t *testing.T, first func(a, b T) bool, l ...T) {
	t.Helper()
	for _, most := range []int{-1, 0, 1, 5} {
		s := New(first, most)
		for range 3 {
			checkKept(t, s, nil)
		}
		for _, x := range l {
			if kept := s.Offer(x); kept && most < 1 {
				t.Error(most, x)
			}
		}
		if most < 1 {
			checkKept(t, s, nil)
		}
	}
	if got := Of(first, 5, slices.Values([]T(nil))); len(got) != 0 {
		t.Error(got)
	}
}

func TestNoneOfSeveralTypes(t *testing.T) {
	checkNone(t, less, 4, -4, 7)
	checkNone(t, lower, item{2, 1}, item{1, 2})
	checkNone(t, func(a, b string) bool { return a < b }, "pear", "fig")
	checkNone(t, func(a, b float64) bool { return a < b }, 0.5, math.Inf(-1))
	checkNone(t, func(a, b *item) bool { return a.key < b.key }, &item{2, 1}, &item{1, 2})
	checkNone(t, order.Nearer, api.Result{Id: 2, Far: 5}, api.Result{Id: 0, Far: 6})
	checkNone(t, func(a, b [2]bool) bool { return a[1] && !b[1] }, [2]bool{true, false})
}

// A zero one that is kept is told beside true: none is told by the false alone.
func TestZeroOnesAreKeptAsOthers(t *testing.T) {
	s := New(less, 2)
	for n := 1; n <= 2; n++ {
		if !s.Offer(0) {
			t.Error(n)
		}
		checkKept(t, s, make([]int, n))
	}
	if s.Offer(0) {
		t.Error("a third one of two")
	}
}

// P8.2

func TestOfExample(t *testing.T) {
	if l := Of(less, 2, slices.Values([]int{3, 1, 2})); !slices.Equal(l, []int{1, 2}) {
		t.Error(l)
	}
}

func TestOfIsTheListOfASelector(t *testing.T) {
	for _, first := range firsts() {
		for _, keys := range append(keyLists(3, 5), longLists()...) {
			l := tagged(keys...)
			for _, most := range mosts(len(l)) {
				s := New(first, most)
				for _, x := range l {
					s.Offer(x)
				}
				if got := Of(first, most, slices.Values(l)); !slices.Equal(got, s.List()) {
					t.Fatal(most, keys, got)
				}
			}
		}
	}
}

// counted tells numbers from 0 on, so many, and counts how many were taken.
func counted(n int, taken *int) iter.Seq[int] {
	return func(yield func(int) bool) {
		for x := range n {
			*taken++
			if !yield(x) {
				return
			}
		}
	}
}

// All is offered, whatever is kept of it: so an iterator that uses up what it tells from is used up.
func TestOfTakesAllOfTheIterator(t *testing.T) {
	for _, n := range []int{0, 1, 2, 3, 50, 5000} {
		for _, most := range mosts(n) {
			taken := 0
			l := Of(less, most, counted(n, &taken))
			if taken != n {
				t.Error("taken", taken, "of", n, "most", most)
			}
			if want := min(max(most, 0), n); len(l) != want || want > 0 && (l[0] != 0 || l[want-1] != want-1) {
				t.Error(n, most, len(l))
			}
		}
	}
	h := heap.New(higher, tagged(4, 9, 1, 9, 3)...)
	if l := Of(lower, 2, h.Drain()); h.Len() != 0 || len(l) != 2 || l[0].key != 1 || l[1].key != 3 {
		t.Error(h.Len(), l)
	}
}

// Of one iterator it answers the same again, in new memory, and what it tells from stays as it was.
func TestOfAgain(t *testing.T) {
	for _, keys := range longLists() {
		l := tagged(keys...)
		was := slices.Clone(l)
		all := slices.Values(l)
		one, two := Of(lower, len(l), all), Of(lower, len(l), all)
		if !slices.Equal(one, two) || !slices.Equal(l, was) {
			t.Fatal("unlike", keys)
		}
		for i := range one {
			one[i] = item{-1, -1}
		}
		one = append(one, item{-2, -2})
		if !slices.Equal(two, Of(lower, len(l), all)) || !slices.Equal(l, was) || one[0].key != -1 {
			t.Fatal("shared", keys)
		}
	}
}

// An Of within the range of another one: neither knows of the other.
func TestOfWithinAnOf(t *testing.T) {
	outer := func(yield func(int) bool) {
		for x := range 5 {
			l := Of(less, 2, slices.Values([]int{x + 3, x + 1, x + 2}))
			if !yield(l[1] * -1) {
				return
			}
		}
	}
	if l := Of(less, 3, outer); !slices.Equal(l, []int{-6, -5, -4}) {
		t.Error(l)
	}
}

// P8.3

func TestOfIsTheBeginningOfAllInOrder(t *testing.T) {
	for _, first := range firsts() {
		for _, keys := range append(keyLists(3, 6), longLists()...) {
			l := tagged(keys...)
			sorted := order.Sort(first, l)
			if want := placed(first, l); !slices.Equal(sorted, want) {
				t.Fatal(sorted, "and not", want)
			}
			for _, most := range mosts(len(l)) {
				want := sorted[:min(max(most, 0), len(l))]
				if got := Of(first, most, slices.Values(l)); !slices.Equal(got, want) {
					t.Fatal(most, keys, got, "and not", want)
				}
			}
		}
	}
}

// Fewer are the beginning of more.
func TestFewerAreTheBeginningOfMore(t *testing.T) {
	for _, keys := range longLists() {
		if len(keys) > 100 {
			continue
		}
		l := slices.Values(tagged(keys...))
		more := Of(lower, len(keys)+1, l)
		for most := len(keys); most >= 0; most-- {
			fewer := Of(lower, most, l)
			if len(fewer) != most || !slices.Equal(fewer, more[:most]) {
				t.Fatal(most, keys)
			}
			more = fewer
		}
	}
}

func TestOfVeryMany(t *testing.T) {
	const n = 1 << 18
	mixed := func(yield func(item) bool) {
		for k := range n {
			if !yield(item{k * 5 % n / 4, k * 5 % n}) {
				return
			}
		}
	}
	for _, most := range []int{1, 1000, n} {
		l := Of(lower, most, mixed)
		if len(l) != most || !order.Sorted(lower, l) {
			t.Fatal(most, len(l))
		}
		for i, x := range l {
			if x.key != i/4 {
				t.Fatal(most, i, x)
			}
		}
	}
}

// P8.3: several types

func TestOfTexts(t *testing.T) {
	texts := slices.Values([]string{"pear", "", "fig", "plum", "\xff", "fig", "elm"})
	before := func(a, b string) bool { return a < b }
	for most, want := range []string{"", "", ",elm", ",elm,fig", ",elm,fig,fig", ",elm,fig,fig,pear"} {
		if l := Of(before, most, texts); strings.Join(l, ",") != want || len(l) != most {
			t.Error(most, l)
		}
	}
	short := func(a, b string) bool { return len(a) < len(b) }
	if l := Of(short, 5, texts); strings.Join(l, ",") != ",\xff,fig,fig,elm" {
		t.Error(l)
	}
}

func TestOfResultsAndTasks(t *testing.T) {
	results := slices.Values([]api.Result{{Id: 0, Far: 6}, {Id: 2, Far: 5}, {Id: 1, Far: 5}, {Id: 3, Far: math.MaxInt64}})
	if l := Of(order.Nearer, 3, results); !slices.Equal(l, []api.Result{{Id: 1, Far: 5}, {Id: 2, Far: 5}, {Id: 0, Far: 6}}) {
		t.Error(l)
	}
	tasks := New(order.Ahead, 4)
	for seq, margin := range []int64{6, math.MinInt64, 7, math.MaxInt64, 7, math.MaxInt64} {
		tasks.Offer(order.Task{Margin: margin, Seq: seq})
	}
	checkKept(t, tasks, []order.Task{{Margin: math.MaxInt64, Seq: 3}, {Margin: math.MaxInt64, Seq: 5}, {Margin: 7, Seq: 2}, {Margin: 7, Seq: 4}})
}

func TestOfTheLeastAndTheGreatestNumbers(t *testing.T) {
	l := slices.Values([]int{math.MaxInt, 0, math.MinInt, -1, math.MaxInt, 1, math.MinInt + 1})
	if l := Of(less, 3, l); !slices.Equal(l, []int{math.MinInt, math.MinInt + 1, -1}) {
		t.Error(l)
	}
	if l := Of(func(a, b int) bool { return a > b }, 3, l); !slices.Equal(l, []int{math.MaxInt, math.MaxInt, 1}) {
		t.Error(l)
	}
}

// Things that == can't be asked of are kept, too.
func TestOfListsAndOfFunctions(t *testing.T) {
	lists := New(func(a, b []int) bool { return len(a) < len(b) }, 3)
	for _, l := range [][]int{{1, 2}, nil, {9}, {8}} {
		lists.Offer(l)
	}
	if l := lists.List(); len(l) != 3 || len(l[0]) != 0 || !slices.Equal(l[1], []int{9}) || !slices.Equal(l[2], []int{8}) {
		t.Error(l)
	}
	calls := New(func(a, b func() int) bool { return a() < b() }, 2)
	if f, ok := calls.Last(); f != nil || ok {
		t.Error("of none there is the zero one")
	}
	for _, n := range []int{3, 1, 2} {
		calls.Offer(func() int { return n })
	}
	if f, ok := calls.Last(); !ok || f() != 2 || calls.Len() != 2 || calls.List()[0]() != 1 {
		t.Error(ok)
	}
}

func TestOfThingsWithoutSize(t *testing.T) {
	s := New(func(a, b struct{}) bool { return false }, 2)
	for i := range 4 {
		if kept := s.Offer(struct{}{}); kept != (i < 2) {
			t.Error(i, kept)
		}
	}
	checkKept(t, s, make([]struct{}, 2))
}

// Pointers are kept as they are: what they point to is nobody's but the caller's.
func TestOfPointers(t *testing.T) {
	a, b, c, d := &item{2, 0}, &item{1, 0}, &item{2, 0}, &item{2, 0}
	l := Of(func(a, b *item) bool { return a.key < b.key }, 3, slices.Values([]*item{a, b, c, d}))
	if !slices.Equal(l, []*item{b, a, c}) {
		t.Error(l)
	}
}

// The rules for all layers

// Of a first that doesn't order nothing is promised but an end.
func TestFirstsThatDoNotOrderEnd(t *testing.T) {
	odd := []func(a, b item) bool{
		func(a, b item) bool { return true },
		func(a, b item) bool { return a.key != b.key },
		func(a, b item) bool { return a.key <= b.key },
		func(a, b item) bool { return (b.key-a.key+3)%3 == 1 }, // each of three is first of the next one, round and round
		func(a, b item) bool { return (a.key*31+b.key*17)%5 < 2 },
		func(a, b item) bool { return a.key < b.key-1 }, // neither of 0 and 1 is first, nor of 1 and 2, but 0 is of 2
	}
	r := rand.New(rand.NewSource(9))
	for _, first := range odd {
		for _, n := range []int{0, 1, 2, 3, 20, 200} {
			for _, most := range mosts(n) {
				s := New(first, most)
				for _, x := range tagged(drawn(r, n, 3)...) {
					s.Offer(x)
					s.Last()
					s.List()
				}
				Of(first, most, slices.Values(tagged(drawn(r, n, 3)...)))
			}
		}
	}
	nan := math.NaN()
	Of(func(a, b float64) bool { return a < b }, 3, slices.Values([]float64{nan, 1, nan, 0, nan}))
}

// What gave way isn't kept, nor what was offered in vain.
func TestNoMoreIsHeldThanIsKept(t *testing.T) {
	s := New(func(a, b *item) bool { return a.key < b.key }, 3)
	for k := range 40 {
		s.Offer(&item{k * 7 % 40, k})
		if s.kept.Len() > 3 || s.came > k+1 {
			t.Fatal(k, s.kept.Len(), s.came)
		}
	}
}
