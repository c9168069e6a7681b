package heap

import (
	"iter"
	"math"
	"math/rand"
	"slices"
	"strings"
	"testing"

	"shelterbelt/api"
	"shelterbelt/order"
)

// item is a number that is ordered by, and a tag that isn't: so it can be told which of those that are alike by first it is.
type item struct{ key, tag int }

func lower(a, b item) bool { return a.key < b.key }

func higher(a, b item) bool { return a.key > b.key }

func less(a, b int) bool { return a < b }

// firsts are those by which items are held in these tests: the last one tells all of them alike.
func firsts() []func(a, b item) bool {
	return []func(a, b item) bool{lower, higher, func(a, b item) bool { return false }}
}

// tagged are items of these keys, whose tags rise from a number on.
func tagged(from int, keys ...int) []item {
	l := make([]item, len(keys))
	for i, k := range keys {
		l[i] = item{k, from + i}
	}
	return l
}

// keyLists are all lists of keys below some number, of at most so many.
func keyLists(below, most int) [][]int {
	all := [][]int{nil}
	last := all
	for range most {
		var next [][]int
		for _, l := range last {
			for k := range below {
				next = append(next, append(slices.Clone(l), k))
			}
		}
		all = append(all, next...)
		last = next
	}
	return all
}

// drawn are keys below some number, so many.
func drawn(r *rand.Rand, n, below int) []int {
	l := make([]int, n)
	for i := range l {
		l[i] = r.Intn(below)
	}
	return l
}

// longLists are keys that rise, fall, are mixed and are the same, more or less of them alike.
func longLists() [][]int {
	r := rand.New(rand.NewSource(7))
	var all [][]int
	for _, n := range []int{7, 8, 9, 15, 16, 17, 31, 32, 33, 100, 1000} {
		for _, below := range []int{1, 2, 5, n, 1 << 40} {
			mixed := drawn(r, n, below)
			rise := slices.Sorted(slices.Values(mixed))
			fall := slices.Clone(rise)
			slices.Reverse(fall)
			all = append(all, mixed, rise, fall)
		}
	}
	return all
}

// filled are heaps of these items that came in unlike ways: all by New, all by Push, some by each.
func filled(first func(a, b item) bool, l []item) []*Heap[item] {
	var heaps []*Heap[item]
	for _, cut := range []int{len(l), 0, len(l) / 2} {
		h := New(first, l[:cut]...)
		for _, x := range l[cut:] {
			h.Push(x)
		}
		heaps = append(heaps, h)
	}
	return heaps
}

// atMost tells what a range tells, and fails where that is more than so many: a heap that loses nothing must not be drained for ever.
func atMost[T any](t *testing.T, most int, all iter.Seq[T]) iter.Seq[T] {
	return func(yield func(T) bool) {
		told := 0
		for x := range all {
			if told++; told > most {
				t.Fatal("more is told than", most)
			}
			if !yield(x) {
				return
			}
		}
	}
}

// emptied is all that Drain tells.
func emptied[T any](t *testing.T, h *Heap[T]) []T {
	t.Helper()
	return slices.Collect(atMost(t, h.Len(), h.Drain()))
}

// bag is what a heap holds, by the chapter's words: a list in which all is looked for from end to end.
type bag struct {
	first func(a, b item) bool
	held  []item
}

// leads: is x held, and none that is held first of it?
func (b *bag) leads(x item) bool {
	return slices.Contains(b.held, x) && !slices.ContainsFunc(b.held, func(y item) bool { return b.first(y, x) })
}

// lose takes one that is held out.
func (b *bag) lose(x item) {
	at := slices.Index(b.held, x)
	b.held = slices.Delete(b.held, at, at+1)
}

// look holds Len and Peek to what the heap must hold.
func (b *bag) look(t *testing.T, h *Heap[item]) {
	t.Helper()
	if h.Len() != len(b.held) {
		t.Fatal("Len", h.Len(), "of", b.held)
	}
	x, ok := h.Peek()
	if ok != (len(b.held) > 0) || ok && !b.leads(x) || !ok && x != (item{}) {
		t.Fatal("Peek", x, ok, "of", b.held)
	}
	if again, ok2 := h.Peek(); again != x || ok2 != ok || h.Len() != len(b.held) {
		t.Fatal("Peek again", again, ok2, "and not", x, ok, "of", b.held)
	}
}

func (b *bag) push(t *testing.T, h *Heap[item], x item) {
	t.Helper()
	h.Push(x)
	b.held = append(b.held, x)
	b.look(t, h)
}

// pop holds Pop to the Peek ahead of it, and to what the heap must hold.
func (b *bag) pop(t *testing.T, h *Heap[item]) {
	t.Helper()
	want, there := h.Peek()
	x, ok := h.Pop()
	if x != want || ok != there {
		t.Fatal("Pop", x, ok, "behind Peek", want, there)
	}
	if ok != (len(b.held) > 0) || !ok && x != (item{}) {
		t.Fatal("Pop", x, ok, "of", b.held)
	}
	if ok {
		b.take(t, x)
	}
	b.look(t, h)
}

// take holds one that was told to what the heap must hold, which is without it from then on.
func (b *bag) take(t *testing.T, x item) {
	t.Helper()
	if !b.leads(x) {
		t.Fatal(x, "isn't a first one of", b.held)
	}
	b.lose(x)
}

// drain ranges over Drain till so many are told, or to the end (below 0).
func (b *bag) drain(t *testing.T, h *Heap[item], all iter.Seq[item], stop int) {
	t.Helper()
	told := 0
	for x := range all {
		b.take(t, x)
		b.look(t, h)
		told++
		if told == stop {
			break
		}
	}
	if told < stop && len(b.held) > 0 || stop < 0 && len(b.held) > 0 {
		t.Fatal("Drain ended ahead of", b.held)
	}
	b.look(t, h)
}

// P7.1: New and Len

func TestNewHoldsAllOfAList(t *testing.T) {
	for _, first := range firsts() {
		for _, keys := range append(keyLists(3, 6), longLists()...) {
			l := tagged(0, keys...)
			b := &bag{first, slices.Clone(l)}
			b.look(t, New(first, l...))
		}
	}
}

func TestNewOfNone(t *testing.T) {
	for _, h := range []*Heap[item]{New(lower), New(lower, []item{}...), New(lower, []item(nil)...)} {
		b := &bag{first: lower}
		b.look(t, h)
		b.pop(t, h)
		b.drain(t, h, h.Drain(), -1)
		b.push(t, h, item{3, 1})
		b.push(t, h, item{2, 2})
		b.drain(t, h, h.Drain(), -1)
	}
}

func TestNewOfOne(t *testing.T) {
	h := New(less, 5)
	if h.Len() != 1 {
		t.Error(h.Len())
	}
	if x, ok := h.Peek(); x != 5 || !ok {
		t.Error(x, ok)
	}
	if x, ok := h.Pop(); x != 5 || !ok || h.Len() != 0 {
		t.Error(x, ok, h.Len())
	}
}

// A zero one that is held is told beside true: none is told by the false alone.
func TestZeroOnesAreHeldAsOthers(t *testing.T) {
	h := New(less, 0)
	h.Push(0)
	for left := 2; left > 0; left-- {
		if x, ok := h.Peek(); x != 0 || !ok || h.Len() != left {
			t.Error(x, ok, h.Len())
		}
		if x, ok := h.Pop(); x != 0 || !ok || h.Len() != left-1 {
			t.Error(x, ok, h.Len())
		}
	}
	if x, ok := h.Pop(); x != 0 || ok {
		t.Error(x, ok)
	}
}

// P7.1: Push

func TestPushHoldsOneMore(t *testing.T) {
	for _, first := range firsts() {
		for _, keys := range keyLists(3, 6) {
			h, b := New(first), &bag{first: first}
			for _, x := range tagged(0, keys...) {
				b.push(t, h, x)
			}
		}
	}
}

func TestPushToWhatNewHolds(t *testing.T) {
	for _, first := range firsts() {
		for _, keys := range keyLists(3, 5) {
			for x := range 3 {
				l := tagged(0, keys...)
				b := &bag{first, slices.Clone(l)}
				h := New(first, l...)
				b.push(t, h, item{x, 99})
				b.drain(t, h, h.Drain(), -1)
			}
		}
	}
}

// P7.1: Pop

func TestPopTellsTheFirstOneAgainAndAgain(t *testing.T) {
	for _, first := range firsts() {
		for _, keys := range append(keyLists(3, 6), longLists()...) {
			if len(keys) > 100 {
				continue
			}
			l := tagged(0, keys...)
			for _, h := range filled(first, l) {
				b := &bag{first, slices.Clone(l)}
				for range len(l) + 2 {
					b.pop(t, h)
				}
			}
		}
	}
}

// All orders in which six unlike ones come end as one.
func TestPopOfAllOrdersOfUnlikeOnes(t *testing.T) {
	for _, keys := range keyLists(6, 6) {
		if len(keys) < 6 || len(slices.Compact(slices.Sorted(slices.Values(keys)))) < 6 {
			continue
		}
		for _, h := range filled(lower, tagged(0, keys...)) {
			for want := range 6 {
				if x, ok := h.Pop(); x.key != want || !ok {
					t.Fatal(keys, want, x, ok)
				}
			}
		}
	}
}

// P7.1: Peek

func TestPeekTakesNothing(t *testing.T) {
	h := New(less, 3, 1, 2)
	for range 50 {
		if x, ok := h.Peek(); x != 1 || !ok || h.Len() != 3 {
			t.Fatal(x, ok, h.Len())
		}
	}
	h.Push(4)
	if x, ok := h.Peek(); x != 1 || !ok || h.Len() != 4 {
		t.Error(x, ok, h.Len())
	}
	h.Push(0)
	if x, ok := h.Peek(); x != 0 || !ok || h.Len() != 5 {
		t.Error(x, ok, h.Len())
	}
}

// Of some that are alike by first the one that Peek tells is the one that Pop tells, whatever else is asked between.
func TestPeekTellsWhichOneIsPopped(t *testing.T) {
	for n := 1; n <= 20; n++ {
		for _, h := range filled(lower, tagged(0, make([]int, n)...)) {
			for range n {
				want, _ := h.Peek()
				h.Peek()
				h.Drain()
				h.Len()
				if x, ok := h.Pop(); x != want || !ok {
					t.Fatal(n, x, ok, "and not", want)
				}
			}
		}
	}
}

// P7.1: what is asked of none

// checkNone holds a heap without things to what is told of none, again and again.
func checkNone[T comparable](t *testing.T, h *Heap[T]) {
	t.Helper()
	var none T
	for range 3 {
		if x, ok := h.Pop(); x != none || ok {
			t.Error("Pop", x, ok)
		}
		if x, ok := h.Peek(); x != none || ok {
			t.Error("Peek", x, ok)
		}
		if h.Len() != 0 {
			t.Error("Len", h.Len())
		}
		for x := range atMost(t, 0, h.Drain()) {
			t.Error("Drain", x)
		}
	}
}

// checkEmptied holds heaps that never held anything, that were popped and that were drained to the same.
func checkEmptied[T comparable](t *testing.T, first func(a, b T) bool, l ...T) {
	t.Helper()
	h := New(first)
	checkNone(t, h)
	for range 3 {
		for _, x := range l {
			h.Push(x)
		}
		for range l {
			if _, ok := h.Pop(); !ok {
				t.Error("one is held still")
			}
		}
		checkNone(t, h)
	}
	drained := New(first, l...)
	emptied(t, drained)
	checkNone(t, drained)
	for _, x := range l {
		drained.Push(x)
		if drained.Len() != 1 {
			t.Error("Len", drained.Len())
		}
		if y, ok := drained.Pop(); y != x || !ok {
			t.Error(y, ok, "and not", x)
		}
	}
	checkNone(t, drained)
}

func TestNoneOfSeveralTypes(t *testing.T) {
	checkEmptied(t, less, 4, -4, 7)
	checkEmptied(t, lower, item{2, 1}, item{1, 2})
	checkEmptied(t, func(a, b string) bool { return a < b }, "pear", "fig", "plum")
	checkEmptied(t, func(a, b float64) bool { return a < b }, 0.5, math.Inf(-1), -0.5)
	checkEmptied(t, func(a, b *item) bool { return a.key < b.key }, &item{2, 1}, &item{1, 2})
	checkEmptied(t, order.Ahead, order.Task{Margin: 6, Seq: 0}, order.Task{Margin: 7, Seq: 4})
	checkEmptied(t, order.Nearer, api.Result{Id: 2, Far: 5}, api.Result{Id: 0, Far: 6})
	checkEmptied(t, func(a, b [2]bool) bool { return a[1] && !b[1] }, [2]bool{true, false}, [2]bool{false, true})
}

// P7.1: what is handed in

func TestNewKeepsNoListThatIsHandedIn(t *testing.T) {
	for n := range 20 {
		l := make([]int, n)
		for i := range l {
			l[i] = n - i
		}
		h := New(less, l...)
		for i := range l {
			l[i] = -1000 - i
		}
		for k := range n {
			if x, ok := h.Pop(); x != k+1 || !ok {
				t.Fatal(n, k, x, ok)
			}
			clear(l)
		}
	}
}

func TestNoCallChangesAListThatIsHandedIn(t *testing.T) {
	all := make([]int, 40)
	for i := range all {
		all[i] = 1000 - i
	}
	want := slices.Clone(all)
	for n := range 21 {
		// The spare room behind the list is the caller's, too.
		l := all[:n]
		h := New(less, l...)
		for k := range 30 {
			h.Push(k * 617 % 31)
		}
		h.Pop()
		h.Peek()
		emptied(t, h)
		h.Push(-5)
		if !slices.Equal(all, want) || len(l) != n {
			t.Fatal("what was handed in has changed", n, all)
		}
	}
}

// Heaps of one list take nothing of each other.
func TestHeapsOfOneListAreTheirOwn(t *testing.T) {
	l := []int{5, 3, 4, 1, 2}
	a, b := New(less, l...), New(func(a, b int) bool { return a > b }, l...)
	for k := range 5 {
		x, ok := a.Pop()
		y, ok2 := b.Pop()
		if x != k+1 || y != 5-k || !ok || !ok2 {
			t.Fatal(k, x, ok, y, ok2)
		}
		if k == 2 {
			a.Push(3)
			if x, _ := a.Pop(); x != 3 {
				t.Error(x)
			}
		}
	}
}

// P7.1: Push, Pop and Peek in whatever order

// Each row of calls is a number, whose digits say which call is next.
func TestAllShortRowsOfCalls(t *testing.T) {
	const kinds, calls = 4, 8 // three pushes of unlike keys, and a Pop
	rows := 1
	for range calls {
		rows *= kinds
	}
	for row := range rows {
		h, b := New(lower), &bag{first: lower}
		for at := range calls {
			if kind := row % kinds; kind < 3 {
				b.push(t, h, item{kind, at})
			} else {
				b.pop(t, h)
			}
			row /= kinds
		}
	}
}

func TestLongRowsOfCalls(t *testing.T) {
	r := rand.New(rand.NewSource(8))
	for _, first := range firsts() {
		for _, below := range []int{1, 3, 20, 1 << 40} {
			for _, pushes := range []int{3, 5, 7} { // of ten calls: so heaps stay small, or grow
				l := tagged(10000, drawn(r, r.Intn(20), below)...)
				h, b := New(first, l...), &bag{first, slices.Clone(l)}
				for call := range 600 {
					switch kind := r.Intn(11); {
					case kind < pushes:
						b.push(t, h, item{r.Intn(below), call})
					case kind < 10:
						b.pop(t, h)
					default:
						b.drain(t, h, h.Drain(), 1+r.Intn(4))
					}
				}
				b.drain(t, h, h.Drain(), -1)
			}
		}
	}
}

func TestTheLastOnePoppedAndOthersPushed(t *testing.T) {
	h, b := New(lower, item{5, 0}), &bag{lower, []item{{5, 0}}}
	for round := range 50 {
		b.pop(t, h)
		b.pop(t, h)
		for k := range round % 7 {
			b.push(t, h, item{(k * 3) % 7, round})
		}
		for len(b.held) > 1 {
			b.pop(t, h)
		}
	}
}

// P7.1: Drain

func TestDrainBrokenOffAtAnyPlaceAndBegunAgain(t *testing.T) {
	keys := []int{4, 1, 3, 1, 0, 2, 4, 4, 1, 3, 0}
	l := tagged(0, keys...)
	for stop := 1; stop <= len(l)+1; stop++ {
		for again := 1; again <= len(l)+1; again++ {
			for _, h := range filled(lower, l) {
				b := &bag{lower, slices.Clone(l)}
				all := h.Drain()
				b.drain(t, h, all, stop)
				if want := max(0, len(l)-stop); h.Len() != want {
					t.Fatal(stop, h.Len())
				}
				b.drain(t, h, all, again)
				b.drain(t, h, h.Drain(), -1)
			}
		}
	}
}

func TestDrainWithPushesBetween(t *testing.T) {
	keys := []int{4, 1, 3, 1, 0, 2}
	for stop := 1; stop <= len(keys)+1; stop++ {
		for _, more := range keyLists(6, 3) {
			for _, h := range filled(lower, tagged(0, keys...)) {
				b := &bag{lower, tagged(0, keys...)}
				all := h.Drain()
				b.drain(t, h, all, stop)
				for _, x := range tagged(50, more...) {
					b.push(t, h, x)
				}
				b.drain(t, h, all, -1)
				b.drain(t, h, all, -1)
			}
		}
	}
}

// Nothing is taken ahead of a range, and no more than is asked for.
func TestDrainTakesWhatIsAskedForAlone(t *testing.T) {
	h := New(less, 3, 1, 2)
	all := h.Drain()
	h.Drain()
	if x, ok := h.Peek(); x != 1 || !ok || h.Len() != 3 {
		t.Error(x, ok, h.Len())
	}
	h.Push(0)
	for x := range all {
		if y, ok := h.Peek(); x != 0 || y != 1 || !ok || h.Len() != 3 {
			t.Error(x, y, ok, h.Len())
		}
		break
	}
	told := 0
	all(func(int) bool { told++; return false })
	if told != 1 || h.Len() != 2 {
		t.Error(told, h.Len())
	}
}

// What is pushed within a range is popped in its turn, by that range.
func TestDrainWithPushesWithin(t *testing.T) {
	h := New(less, 40, 20, 30)
	var told []int
	for x := range atMost(t, 9, h.Drain()) {
		told = append(told, x)
		if x%10 < 2 {
			h.Push(x + 1)
		}
	}
	if want := []int{20, 21, 22, 30, 31, 32, 40, 41, 42}; !slices.Equal(told, want) || h.Len() != 0 {
		t.Error(told, h.Len())
	}
	// One that is pushed as the last one is told.
	h.Push(1)
	told = nil
	for x := range atMost(t, 5, h.Drain()) {
		told = append(told, x)
		if len(told) < 5 {
			h.Push(-len(told))
		}
	}
	if want := []int{1, -1, -2, -3, -4}; !slices.Equal(told, want) || h.Len() != 0 {
		t.Error(told, h.Len())
	}
}

// What is popped within a range isn't told by it.
func TestDrainWithPopsWithin(t *testing.T) {
	h := New(less, 5, 1, 4, 2, 3)
	var told, popped []int
	for x := range atMost(t, 3, h.Drain()) {
		told = append(told, x)
		if y, ok := h.Pop(); ok {
			popped = append(popped, y)
		}
	}
	if !slices.Equal(told, []int{1, 3, 5}) || !slices.Equal(popped, []int{2, 4}) || h.Len() != 0 {
		t.Error(told, popped, h.Len())
	}
}

func TestDrainWithinADrain(t *testing.T) {
	h := New(less, 5, 1, 4, 2, 3)
	all := atMost(t, 5, h.Drain())
	var outer, inner []int
	for x := range all {
		outer = append(outer, x)
		for y := range all {
			inner = append(inner, y)
			if len(inner) == 2 {
				break
			}
		}
	}
	if !slices.Equal(outer, []int{1, 4}) || !slices.Equal(inner, []int{2, 3, 5}) || h.Len() != 0 {
		t.Error(outer, inner, h.Len())
	}
}

// P7.2

func TestDrainExample(t *testing.T) {
	h := New(less, 3, 1, 2)
	if l := emptied(t, h); !slices.Equal(l, []int{1, 2, 3}) {
		t.Error(l)
	}
	if h.Len() != 0 {
		t.Error(h.Len())
	}
}

// byTag puts those that are alike by first in one order, so that lists of the same things are the same.
func byTag(a, b item) int { return a.tag - b.tag }

// checkAllInOrder: is what is drained in order, and just what was held?
func checkAllInOrder(t *testing.T, first func(a, b item) bool, held, told []item) {
	t.Helper()
	for i := 1; i < len(told); i++ {
		if first(told[i], told[i-1]) {
			t.Fatal("not in order", i, told)
		}
	}
	if !slices.Equal(slices.SortedFunc(slices.Values(told), byTag), held) {
		t.Fatal("held were", held, "and told were", told)
	}
}

func TestDrainTellsAllThatIsHeldInOrder(t *testing.T) {
	for _, first := range firsts() {
		for _, keys := range append(keyLists(3, 7), longLists()...) {
			l := tagged(0, keys...)
			for _, h := range filled(first, l) {
				checkAllInOrder(t, first, l, emptied(t, h))
				if h.Len() != 0 {
					t.Fatal(h.Len())
				}
			}
		}
	}
}

// Behind some that were popped and some that were pushed, too.
func TestDrainTellsWhatIsLeftInOrder(t *testing.T) {
	for _, keys := range longLists() {
		l := tagged(0, keys...)
		cut := len(l) / 3
		h := New(lower, l[cut:]...)
		left := slices.Clone(l)
		for range cut {
			x, _ := h.Pop()
			left = slices.DeleteFunc(left, func(y item) bool { return x == y })
		}
		for _, x := range l[:cut] {
			h.Push(x)
		}
		checkAllInOrder(t, lower, left, emptied(t, h))
	}
}

// The same thing more than once is told as often.
func TestDrainTellsTheSameOneAsOftenAsItIsHeld(t *testing.T) {
	one := item{4, 4}
	for n := range 40 {
		h := New(lower, slices.Repeat([]item{one}, n/2)...)
		for range n - n/2 {
			h.Push(one)
		}
		if l := emptied(t, h); !slices.Equal(l, slices.Repeat([]item{one}, n)) {
			t.Fatal(n, l)
		}
	}
}

func TestDrainOfVeryMany(t *testing.T) {
	const n = 1 << 18
	h := New(less)
	var half []int
	for k := range n {
		if x := k * 5 % n; k%2 == 0 {
			half = append(half, x)
		} else {
			h.Push(x)
		}
	}
	for _, x := range half {
		h.Push(x)
	}
	want := 0
	for x := range h.Drain() {
		if x != want {
			t.Fatal(x, "and not", want)
		}
		want++
	}
	if want != n {
		t.Error(want)
	}
	whole := New(less, slices.Concat(half, half)...)
	if l := emptied(t, whole); len(l) != n || !slices.IsSorted(l) {
		t.Error(len(l))
	}
}

// P7.2: several types

func TestDrainOfTexts(t *testing.T) {
	h := New(func(a, b string) bool { return a < b }, "pear", "", "fig", "plum", "\xff", "fig")
	h.Push("elm")
	if l := emptied(t, h); strings.Join(l, ",") != ",elm,fig,fig,pear,plum,\xff" {
		t.Error(l)
	}
}

func TestDrainOfResultsAndTasks(t *testing.T) {
	results := New(order.Nearer, api.Result{Id: 0, Far: 6}, api.Result{Id: 2, Far: 5}, api.Result{Id: 1, Far: 5})
	if l := emptied(t, results); !slices.Equal(l, []api.Result{{Id: 1, Far: 5}, {Id: 2, Far: 5}, {Id: 0, Far: 6}}) {
		t.Error(l)
	}
	tasks := New(order.Ahead)
	for seq, margin := range []int64{6, math.MinInt64, 7, math.MaxInt64, 7, math.MaxInt64} {
		tasks.Push(order.Task{Margin: margin, Seq: seq})
	}
	var seqs []int
	for x := range atMost(t, 6, tasks.Drain()) {
		seqs = append(seqs, x.Seq)
	}
	if !slices.Equal(seqs, []int{3, 5, 2, 4, 0, 1}) {
		t.Error(seqs)
	}
}

func TestDrainOfTheLeastAndTheGreatestNumbers(t *testing.T) {
	h := New(less, math.MaxInt, 0, math.MinInt, -1, math.MaxInt, 1, math.MinInt+1)
	if l := emptied(t, h); !slices.Equal(l, []int{math.MinInt, math.MinInt + 1, -1, 0, 1, math.MaxInt, math.MaxInt}) {
		t.Error(l)
	}
}

// Things that == can't be asked of are held, too.
func TestDrainOfListsAndOfFunctions(t *testing.T) {
	lists := New(func(a, b []int) bool { return len(a) < len(b) }, []int{1, 2}, nil)
	lists.Push([]int{9})
	at := 0
	for l := range atMost(t, 3, lists.Drain()) {
		if len(l) != at {
			t.Error(l)
		}
		at++
	}
	tell := func(n int) func() int { return func() int { return n } }
	calls := New(func(a, b func() int) bool { return a() < b() }, tell(3), tell(1))
	calls.Push(tell(2))
	for want := 1; want <= 3; want++ {
		if f, ok := calls.Pop(); !ok || f() != want {
			t.Error(want, ok)
		}
	}
	if f, ok := calls.Pop(); f != nil || ok {
		t.Error("of none there is the zero one")
	}
}

func TestDrainOfThingsWithoutSize(t *testing.T) {
	h := New(func(a, b struct{}) bool { return false }, struct{}{}, struct{}{})
	h.Push(struct{}{})
	if l := emptied(t, h); len(l) != 3 || h.Len() != 0 {
		t.Error(len(l), h.Len())
	}
}

// Pointers are held as they are: what they point to is nobody's but the caller's.
func TestDrainOfPointers(t *testing.T) {
	a, b, c := &item{2, 0}, &item{1, 0}, &item{2, 0}
	h := New(func(a, b *item) bool { return a.key < b.key }, a, b, c)
	l := emptied(t, h)
	if len(l) != 3 || l[0] != b || l[1] == l[2] || l[1] != a && l[1] != c || l[2] != a && l[2] != c {
		t.Error(l)
	}
}

// The rules for all layers

// Of a first that doesn't order nothing is promised but an end.
func TestFirstsThatDoNotOrderEnd(t *testing.T) {
	odd := []func(a, b item) bool{
		func(a, b item) bool { return true },
		func(a, b item) bool { return a.key != b.key },
		func(a, b item) bool { return a.key <= b.key },
		func(a, b item) bool { return (b.key-a.key+3)%3 == 1 }, // each of three is first of the next one, round and round
		func(a, b item) bool { return (a.key*31+b.key*17)%5 < 2 },
		func(a, b item) bool { return a.key < b.key-1 }, // neither of 0 and 1 is first, nor of 1 and 2, but 0 is of 2
	}
	r := rand.New(rand.NewSource(9))
	for _, first := range odd {
		for _, n := range []int{0, 1, 2, 3, 20, 200, 5000} {
			for _, h := range filled(first, tagged(0, drawn(r, n, 3)...)) {
				for range n / 3 {
					h.Pop()
					h.Peek()
				}
				emptied(t, h)
			}
		}
	}
	h := New(func(a, b float64) bool { return a < b }, math.NaN(), 1, math.NaN(), 0)
	h.Push(math.NaN())
	emptied(t, h)
}

// Heaps that were told the same tell the same, of those that are alike by first, too.
func TestHeapsToldTheSameTellTheSame(t *testing.T) {
	for _, keys := range longLists() {
		l := tagged(0, keys...)
		a := New(lower, l...)
		// A list with much spare room, and one without: how much there is plays no part.
		b := New(lower, slices.Grow(slices.Clone(l), 5*len(l))...)
		for _, x := range l[:len(l)/2] {
			a.Push(x)
			b.Push(x)
		}
		if !slices.Equal(emptied(t, a), emptied(t, b)) {
			t.Fatal("unlike", keys)
		}
	}
}

// What is popped isn't kept, not even behind the end of what is held.
func TestWhatIsPoppedIsNotKept(t *testing.T) {
	for n := range 20 {
		h := New(func(a, b *item) bool { return a.key < b.key })
		for k := range n {
			h.Push(&item{k * 7 % 20, k})
		}
		for range n {
			h.Pop()
			for at, x := range h.held[:cap(h.held)] {
				if at >= h.Len() && x != nil {
					t.Fatal(n, at, "is kept")
				}
			}
		}
	}
}
