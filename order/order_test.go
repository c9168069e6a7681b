package order

import (
	"math"
	"math/rand"
	"slices"
	"strings"
	"testing"

	"shelterbelt/api"
)

// item is a number that is ordered by, and a tag that isn't: so it can be told which of the same ones stands where.
type item struct{ key, tag int }

func lower(a, b item) bool { return a.key < b.key }

func higher(a, b item) bool { return a.key > b.key }

// tagged are items of these keys, whose tags rise from a number on.
func tagged(from int, keys ...int) []item {
	l := make([]item, len(keys))
	for i, k := range keys {
		l[i] = item{k, from + i}
	}
	return l
}

// keyLists are all lists of keys below some number, of at most so many.
func keyLists(below, most int) [][]int {
	all := [][]int{nil}
	last := all
	for range most {
		var next [][]int
		for _, l := range last {
			for k := range below {
				next = append(next, append(slices.Clone(l), k))
			}
		}
		all = append(all, next...)
		last = next
	}
	return all
}

// drawn are keys below some number, so many.
func drawn(r *rand.Rand, n, below int) []int {
	l := make([]int, n)
	for i := range l {
		l[i] = r.Intn(below)
	}
	return l
}

// place is where the item at i belongs: behind all that are first of it, and those ahead of it in the list of which neither is first.
func place(first func(a, b item) bool, l []item, i int) int {
	at := 0
	for k, x := range l {
		if first(x, l[i]) || k < i && !first(l[i], x) {
			at++
		}
	}
	return at
}

// placed is a list in order, each item put where it belongs by a count of all the others.
func placed(first func(a, b item) bool, l []item) []item {
	s := make([]item, len(l))
	for i := range l {
		s[place(first, l, i)] = l[i]
	}
	return s
}

// roomy is a copy of a list with spare room behind it, and that room: what is written into it is seen.
func roomy(l []item) (list, room []item) {
	all := append(slices.Clone(l), tagged(-9, -7, -7, -7, -7)...)
	return all[:len(l)], all[len(l):]
}

// numbers are of all kinds: below 0, the least and the greatest ones, and such whose differences go round.
func numbers() []int64 {
	return []int64{math.MinInt64, math.MinInt64 + 1, -1 << 32, -7, -1, 0, 1, 5, 6, 1 << 31, 1 << 62, math.MaxInt64 - 1, math.MaxInt64}
}

// results are all pairs of such numbers, each nearer than those behind it.
func results() []api.Result {
	var l []api.Result
	for _, far := range numbers() {
		for _, id := range numbers() {
			l = append(l, api.Result{Id: int(id), Far: far})
		}
	}
	return l
}

// tasks are all pairs of such numbers, each ahead of those behind it.
func tasks() []Task {
	var l []Task
	for _, margin := range slices.Backward(numbers()) {
		for _, seq := range numbers() {
			l = append(l, Task{Margin: margin, Seq: int(seq)})
		}
	}
	return l
}

// P4.1

func TestNearerExamples(t *testing.T) {
	near := api.Result{Id: 1, Far: 5}
	for _, other := range []api.Result{{Id: 2, Far: 5}, {Id: 0, Far: 6}} {
		if !Nearer(near, other) {
			t.Error(near, "isn't nearer than", other)
		}
		if Nearer(other, near) {
			t.Error(other, "is nearer than", near)
		}
	}
}

func TestAheadExamples(t *testing.T) {
	front := Task{7, 3}
	for _, other := range []Task{{7, 4}, {6, 0}} {
		if !Ahead(front, other) {
			t.Error(front, "isn't ahead of", other)
		}
		if Ahead(other, front) {
			t.Error(other, "is ahead of", front)
		}
	}
}

func TestNearerOfAllNumbers(t *testing.T) {
	l := results()
	for i, a := range l {
		for k, b := range l {
			if Nearer(a, b) != (i < k) {
				t.Fatal(a, b, i, k)
			}
		}
	}
}

func TestAheadOfAllNumbers(t *testing.T) {
	l := tasks()
	for i, a := range l {
		for k, b := range l {
			if Ahead(a, b) != (i < k) {
				t.Fatal(a, b, i, k)
			}
		}
	}
}

// P4.2: Compare

func TestCompareTellsWhichIsFirst(t *testing.T) {
	for _, a := range numbers() {
		for _, b := range numbers() {
			want := 0
			if a < b {
				want = -1
			}
			if a > b {
				want = 1
			}
			x, y := item{int(a), 1}, item{int(b), 2}
			if got := Compare(lower, x, y); got != want {
				t.Error("lower", a, b, got)
			}
			if got := Compare(higher, x, y); got != -want {
				t.Error("higher", a, b, got)
			}
		}
	}
}

func TestCompareOfResultsAndTasks(t *testing.T) {
	if c := Compare(Nearer, api.Result{Id: 1, Far: 5}, api.Result{Id: 2, Far: 5}); c != -1 {
		t.Error(c)
	}
	if c := Compare(Nearer, api.Result{Id: 0, Far: 6}, api.Result{Id: 1, Far: 5}); c != 1 {
		t.Error(c)
	}
	if c := Compare(Nearer, api.Result{Id: -4, Far: 6}, api.Result{Id: -4, Far: 6}); c != 0 {
		t.Error(c)
	}
	if c := Compare(Ahead, Task{7, 3}, Task{6, 0}); c != -1 {
		t.Error(c)
	}
	if c := Compare(Ahead, Task{7, 4}, Task{7, 3}); c != 1 {
		t.Error(c)
	}
	if c := Compare(Ahead, Task{-7, 3}, Task{-7, 3}); c != 0 {
		t.Error(c)
	}
}

// P4.2: Sorted

// anyFirst goes by the chapter's words: is one first of the one ahead of it?
func anyFirst(l []item) bool {
	for i := range l {
		if i > 0 && l[i].key < l[i-1].key {
			return true
		}
	}
	return false
}

func TestSortedOfAllShortLists(t *testing.T) {
	for _, keys := range keyLists(4, 6) {
		if l := tagged(0, keys...); Sorted(lower, l) != !anyFirst(l) {
			t.Fatal(l)
		}
	}
}

func TestSortedOfNoneAndOfOne(t *testing.T) {
	if !Sorted(lower, nil) || !Sorted(lower, []item{}) || !Sorted(lower, tagged(0, 5)) {
		t.Error("a list of less than two is in order")
	}
	if !Sorted(Nearer, nil) || !Sorted(Ahead, []Task{{1, 1}}) {
		t.Error("a list of less than two is in order")
	}
}

func TestSortedOfTheSameOnes(t *testing.T) {
	l := tagged(0, make([]int, 100)...)
	slices.Reverse(l)
	if !Sorted(lower, l) || !Sorted(higher, l) {
		t.Error("of the same ones none is first")
	}
}

func TestSortedSeesOneThatIsFirstAnywhere(t *testing.T) {
	const n = 50
	keys := make([]int, n)
	for i := range keys {
		keys[i] = 2 * i
	}
	if !Sorted(lower, tagged(0, keys...)) {
		t.Error("in order")
	}
	for i := 1; i < n; i++ {
		l := tagged(0, keys...)
		l[i].key = l[i-1].key - 1
		if Sorted(lower, l) {
			t.Error(i)
		}
	}
}

func TestSortedOfResultsAndTasks(t *testing.T) {
	rs, ts := results(), tasks()
	if !Sorted(Nearer, rs) || !Sorted(Ahead, ts) {
		t.Error("in order")
	}
	slices.Reverse(rs)
	slices.Reverse(ts)
	if Sorted(Nearer, rs) || Sorted(Ahead, ts) {
		t.Error("the other way round")
	}
}

// P4.2: Sort

// checkSort holds Sort to the definition, and to what stays as it was.
func checkSort(t *testing.T, first func(a, b item) bool, l []item) {
	t.Helper()
	given, room := roomy(l)
	spare := slices.Clone(room)
	got := Sort(first, given)
	if want := placed(first, l); !slices.Equal(got, want) {
		t.Fatalf("Sort of %v: %v, not %v", l, got, want)
	}
	if !Sorted(first, got) {
		t.Fatal("not Sorted", got)
	}
	for i := range got {
		got[i].key = -1000
	}
	_ = append(got, item{-1000, -1000})
	if !slices.Equal(given, l) || !slices.Equal(room, spare) {
		t.Fatal("what was handed in has changed", l, given, room)
	}
}

func TestSortOfAllShortLists(t *testing.T) {
	for _, keys := range keyLists(3, 6) {
		checkSort(t, lower, tagged(0, keys...))
		checkSort(t, higher, tagged(0, keys...))
	}
}

func TestSortOfLongLists(t *testing.T) {
	r := rand.New(rand.NewSource(4))
	for _, n := range []int{7, 19, 20, 21, 39, 40, 41, 63, 64, 65, 257, 1000} {
		for _, below := range []int{1, 2, 5, n, 1 << 40} {
			keys := drawn(r, n, below)
			checkSort(t, lower, tagged(0, keys...))
			checkSort(t, higher, tagged(0, keys...))
			slices.Sort(keys)
			checkSort(t, lower, tagged(0, keys...))
			checkSort(t, higher, tagged(0, keys...))
			slices.Reverse(keys)
			checkSort(t, lower, tagged(0, keys...))
			checkSort(t, higher, tagged(0, keys...))
		}
	}
}

func TestSortOfNoneAndOfOne(t *testing.T) {
	if s := Sort(lower, nil); len(s) != 0 {
		t.Error(s)
	}
	if s := Sort(lower, []item{}); len(s) != 0 {
		t.Error(s)
	}
	l := tagged(3, 8)
	s := Sort(lower, l)
	if !slices.Equal(s, l) {
		t.Error(s)
	}
	s[0].key = 9
	if l[0].key != 8 {
		t.Error("an answer shares memory with what was handed in")
	}
}

func TestSortOfResults(t *testing.T) {
	want := results()
	l := slices.Clone(want)
	rand.New(rand.NewSource(5)).Shuffle(len(l), func(i, k int) { l[i], l[k] = l[k], l[i] })
	if s := Sort(Nearer, l); !slices.Equal(s, want) {
		t.Error("results aren't in order")
	}
}

func TestSortOfTasks(t *testing.T) {
	want := tasks()
	l := slices.Clone(want)
	slices.Reverse(l)
	if s := Sort(Ahead, l); !slices.Equal(s, want) {
		t.Error("tasks aren't in order")
	}
}

func TestSortOfOtherTypes(t *testing.T) {
	shorter := func(a, b string) bool { return len(a) < len(b) }
	if s := Sort(shorter, []string{"pear", "fig", "", "plum", "elm", "a"}); strings.Join(s, ",") != ",a,fig,elm,pear,plum" {
		t.Error(s)
	}
	// Things that == can't be asked of can be put in order, too.
	lists := Sort(func(a, b []int) bool { return a[0] < b[0] }, [][]int{{2, 0}, {1}, {2}, {0, 9}})
	if len(lists) != 4 || lists[0][0] != 0 || lists[1][0] != 1 || len(lists[2]) != 2 || len(lists[3]) != 1 {
		t.Error(lists)
	}
}

// P4.2: Merge

// checkMerge holds Merge of lists that are Sorted to the definition: both, one behind the other, put in order.
func checkMerge(t *testing.T, first func(a, b item) bool, a, b []item) {
	t.Helper()
	givenA, roomA := roomy(a)
	givenB, roomB := roomy(b)
	spare := slices.Clone(roomA)
	got := Merge(first, givenA, givenB)
	if want := placed(first, slices.Concat(a, b)); !slices.Equal(got, want) {
		t.Fatalf("Merge of %v and %v: %v, not %v", a, b, got, want)
	}
	for i := range got {
		got[i].key = -1000
	}
	_ = append(got, item{-1000, -1000})
	if !slices.Equal(givenA, a) || !slices.Equal(givenB, b) || !slices.Equal(roomA, spare) || !slices.Equal(roomB, spare) {
		t.Fatal("what was handed in has changed", a, b)
	}
}

func TestMergeOfAllShortLists(t *testing.T) {
	var inOrder [][]int
	for _, keys := range keyLists(3, 5) {
		if slices.IsSorted(keys) {
			inOrder = append(inOrder, keys)
		}
	}
	for _, a := range inOrder {
		for _, b := range inOrder {
			checkMerge(t, lower, tagged(0, a...), tagged(100, b...))
		}
	}
}

func TestMergeOfUnlikeLengths(t *testing.T) {
	r := rand.New(rand.NewSource(6))
	for _, n := range []int{0, 1, 2, 30, 300} {
		for _, m := range []int{0, 1, 2, 31, 299} {
			for _, below := range []int{1, 3, 50, 1 << 40} {
				a, b := drawn(r, n, below), drawn(r, m, below)
				slices.Sort(a)
				slices.Sort(b)
				checkMerge(t, lower, tagged(0, a...), tagged(1000, b...))
				slices.Reverse(a)
				slices.Reverse(b)
				checkMerge(t, higher, tagged(0, a...), tagged(1000, b...))
			}
		}
	}
}

func TestMergeOfNone(t *testing.T) {
	if l := Merge(lower, nil, nil); len(l) != 0 {
		t.Error(l)
	}
	if l := Merge(lower, []item{}, nil); len(l) != 0 {
		t.Error(l)
	}
	one := tagged(0, 4, 4, 6)
	for _, none := range [][]item{nil, {}} {
		for _, l := range [][]item{Merge(lower, one, none), Merge(lower, none, one)} {
			if !slices.Equal(l, one) {
				t.Error(l)
			}
			l[0].key = 9
			if one[0].key != 4 {
				t.Fatal("an answer shares memory with what was handed in")
			}
		}
	}
}

func TestMergeOfOneListWithItself(t *testing.T) {
	l := tagged(0, 1, 1, 3)
	want := []item{{1, 0}, {1, 1}, {1, 0}, {1, 1}, {3, 2}, {3, 2}}
	if m := Merge(lower, l, l); !slices.Equal(m, want) {
		t.Error(m)
	}
}

func TestMergeOfResultsAndTasks(t *testing.T) {
	var a, b []api.Result
	for i, x := range results() {
		if i%3 == 0 {
			a = append(a, x)
		} else {
			b = append(b, x)
		}
	}
	if m := Merge(Nearer, a, b); !slices.Equal(m, results()) {
		t.Error("results aren't in order")
	}
	l := tasks()
	if m := Merge(Ahead, l[40:], l[:40]); !slices.Equal(m, l) {
		t.Error("tasks aren't in order")
	}
}

// Of a first that doesn't order nothing is promised but an end.
func TestFirstsThatDoNotOrderEnd(t *testing.T) {
	firsts := []func(a, b item) bool{
		func(a, b item) bool { return true },
		func(a, b item) bool { return false },
		func(a, b item) bool { return a.key != b.key },
		func(a, b item) bool { return a.key <= b.key },
		func(a, b item) bool { return (b.key-a.key+3)%3 == 1 }, // each of three is first of the next one, round and round
		func(a, b item) bool { return (a.key*31+b.key*17)%5 < 2 },
		func(a, b item) bool { return a.key < b.key-1 }, // neither of 0 and 1 is first, nor of 1 and 2, but 0 is of 2
	}
	r := rand.New(rand.NewSource(7))
	for _, first := range firsts {
		for _, n := range []int{0, 1, 2, 3, 20, 21, 200, 5000} {
			l := tagged(0, drawn(r, n, 3)...)
			given := slices.Clone(l)
			Sorted(first, l)
			Sort(first, l)
			Merge(first, l, l[:n/3])
			Merge(first, l[:n/2], l)
			for i := range min(n, 9) {
				Compare(first, l[i], l[0])
			}
			if !slices.Equal(l, given) {
				t.Fatal("what was handed in has changed")
			}
		}
	}
}

// P4.3

func TestOfTwoResultsJustOneIsFirst(t *testing.T) {
	for _, a := range results() {
		for _, b := range results() {
			if (a != b) != (Nearer(a, b) != Nearer(b, a)) || a == b && Nearer(a, b) {
				t.Fatal(a, b)
			}
		}
	}
}

func TestOfTwoTasksJustOneIsFirst(t *testing.T) {
	for _, a := range tasks() {
		for _, b := range tasks() {
			if (a != b) != (Ahead(a, b) != Ahead(b, a)) || a == b && Ahead(a, b) {
				t.Fatal(a, b)
			}
		}
	}
}

// So lists of unlike ones have one order alone, however they stood.
func TestOneOrderOfUnlikeOnes(t *testing.T) {
	r := rand.New(rand.NewSource(8))
	want := results()[30:90]
	for range 50 {
		l := slices.Clone(want)
		r.Shuffle(len(l), func(i, k int) { l[i], l[k] = l[k], l[i] })
		cut := r.Intn(len(l) + 1)
		if !slices.Equal(Sort(Nearer, l), want) {
			t.Fatal("another order")
		}
		if !slices.Equal(Merge(Nearer, Sort(Nearer, l[cut:]), Sort(Nearer, l[:cut])), want) {
			t.Fatal("another order, merged")
		}
	}
}
