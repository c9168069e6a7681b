package stream

import (
	"iter"
	"math"
	"math/big"
	"math/rand"
	"slices"
	"sync"
	"testing"

	"shelterbelt/api"
	"shelterbelt/rng"
)

const most = math.MaxUint64

// take are the next draws of a source, so many.
func take(s rng.Source, n int) []uint64 {
	l := make([]uint64, n)
	for i := range l {
		l[i] = s.Draw()
	}
	return l
}

// zeros are so many of them.
func zeros(n int) []uint64 { return make([]uint64, n) }

// seeds are of all kinds: both ends, both sides of the middle, single bits.
func seeds() []uint64 {
	l := []uint64{0, 1, 2, 5, 9, 1234567, 1<<63 - 1, 1 << 63, 1<<63 + 1, most - 2, most - 1, most}
	for bit := range 64 {
		l = append(l, 1<<bit, most-1<<bit)
	}
	return l
}

func scripted(l ...uint64) api.Draws { return api.Draws{Scripted: true, List: l} }

func seeded(seed uint64) api.Draws { return api.Draws{Seed: seed} }

// rising are the numbers 1, 2, 3 and so on, so many: each tells at which place of a list it stands.
func rising(n int) []uint64 {
	l := make([]uint64, n)
	for i := range l {
		l[i] = uint64(i) + 1
	}
	return l
}

// begins are so many of the first draws of a tree's stream, by the chapter's words: a list is gone through place by place, and a mixer draw by draw.
func begins(d api.Draws, tree, trees, n int) []uint64 {
	if tree < 0 || tree >= trees {
		return zeros(n)
	}
	if !d.Scripted {
		m := rng.Mix(d.Seed)
		take(m, tree)
		return take(rng.Mix(m.Draw()), n)
	}
	l := zeros(0)
	for place, x := range d.List {
		if place >= tree && (place-tree)%trees == 0 {
			l = append(l, x)
		}
	}
	return append(l, zeros(n)...)[:n]
}

// kinds are Draws of each kind, those among them whose other field is set, too.
func kinds() []api.Draws {
	l := []api.Draws{
		{}, {Scripted: true}, {Scripted: true, Seed: 9}, {List: []uint64{1, 2, 3}},
		{Scripted: true, List: []uint64{}}, {Scripted: true, Seed: most, List: []uint64{0, most, 0, 1 << 63, 0}},
		{Seed: most, List: []uint64{4, 5, 6, 7}}, seeded(1), seeded(1 << 63), seeded(most),
	}
	for n := range 14 {
		l = append(l, scripted(rising(n)...))
	}
	return l
}

// P6.1: Nth

func TestNthOfKnownSeeds(t *testing.T) {
	for _, x := range []struct {
		seed uint64
		want []uint64
	}{
		{0, []uint64{0xE220A8397B1DCDAF, 0x6E789E6AA1B965F4, 0x06C45D188009454F}},
		{1234567, []uint64{6457827717110365317, 3203168211198807973, 9817491932198370423, 4593380528125082431, 16408922859458223821}},
	} {
		for n, want := range x.want {
			if got := Nth(x.seed, n); got != want {
				t.Errorf("%d, %d: %X, not %X", x.seed, n, got, want)
			}
		}
	}
}

func TestNthIsTheMixersDrawOfThatNumber(t *testing.T) {
	for _, seed := range seeds() {
		m := rng.Mix(seed)
		for n := range 300 {
			if got, want := Nth(seed, n), m.Draw(); got != want {
				t.Fatalf("%X, %d: %X, not %X", seed, n, got, want)
			}
		}
	}
}

func TestNthOfManyDraws(t *testing.T) {
	m := rng.Mix(most)
	for n := range 1 << 18 {
		if got, want := Nth(most, n), m.Draw(); got != want {
			t.Fatalf("%d: %X, not %X", n, got, want)
		}
	}
}

// stateBehind is a mixer's state behind so many draws, by a whole number without an end, of which what is modulo 2 to the 64 is taken.
func stateBehind(seed uint64, n int) uint64 {
	step, _ := new(big.Int).SetString("9E3779B97F4A7C15", 16)
	sum := new(big.Int).Mul(step, big.NewInt(int64(n)))
	sum.Add(sum, new(big.Int).SetUint64(seed))
	return sum.Mod(sum, new(big.Int).Lsh(big.NewInt(1), 64)).Uint64()
}

// Numbers so great that nobody could make all draws ahead of theirs.
func TestNthOfTheGreatestNumbers(t *testing.T) {
	for _, seed := range seeds() {
		for _, n := range []int{1<<31 - 1, 1 << 31, 1<<32 + 1, 1 << 53, 1 << 62, math.MaxInt - 1, math.MaxInt} {
			if got, want := Nth(seed, n), rng.Mix(stateBehind(seed, n)).Draw(); got != want {
				t.Fatalf("%X, %d: %X, not %X", seed, n, got, want)
			}
		}
	}
}

func TestNthBelowZeroIsZero(t *testing.T) {
	for _, seed := range seeds() {
		for _, n := range []int{-1, -2, -3, -256, -1 << 31, -1 << 32, math.MinInt + 1, math.MinInt} {
			if got := Nth(seed, n); got != 0 {
				t.Fatalf("%X, %d: %X", seed, n, got)
			}
		}
	}
}

func TestNthOfOneSeedAgain(t *testing.T) {
	first := Nth(7, 3)
	Nth(7, 9)
	Nth(8, 3)
	if again := Nth(7, 3); again != first {
		t.Error(first, again)
	}
}

// P6.1: Of, by a list

func TestOfExample(t *testing.T) {
	d := scripted(1, 2, 3, 4, 5)
	if l := take(Of(d, 0, 2), 4); !slices.Equal(l, []uint64{1, 3, 5, 0}) {
		t.Error(l)
	}
	if l := take(Of(d, 1, 2), 4); !slices.Equal(l, []uint64{2, 4, 0, 0}) {
		t.Error(l)
	}
}

func TestOfAList(t *testing.T) {
	five := []uint64{1, 2, 3, 4, 5}
	for _, x := range []struct {
		list        []uint64
		tree, trees int
		want        []uint64
	}{
		{five, 0, 1, []uint64{1, 2, 3, 4, 5}},
		{five, 0, 3, []uint64{1, 4}}, {five, 1, 3, []uint64{2, 5}}, {five, 2, 3, []uint64{3}},
		{five, 0, 4, []uint64{1, 5}}, {five, 1, 4, []uint64{2}}, {five, 3, 4, []uint64{4}},
		{five, 0, 5, []uint64{1}}, {five, 4, 5, []uint64{5}},
		{five, 0, 6, []uint64{1}}, {five, 4, 6, []uint64{5}}, {five, 5, 6, nil},
		{five, 4, 256, []uint64{5}}, {five, 5, 256, nil}, {five, 255, 256, nil},
		{[]uint64{8}, 0, 1, []uint64{8}}, {[]uint64{8}, 0, 2, []uint64{8}}, {[]uint64{8}, 1, 2, nil},
		{[]uint64{0, most, 0, 7, 1 << 63}, 0, 2, []uint64{0, 0, 1 << 63}}, {[]uint64{0, most, 0, 7, 1 << 63}, 1, 2, []uint64{most, 7}},
		{nil, 0, 1, nil}, {nil, 0, 2, nil}, {nil, 1, 2, nil}, {[]uint64{}, 0, 1, nil}, {five[:0], 0, 1, nil},
	} {
		want := append(slices.Clone(x.want), zeros(200)...)
		if l := take(Of(scripted(x.list...), x.tree, x.trees), len(want)); !slices.Equal(l, want) {
			t.Error(x, l[:10])
		}
	}
}

func TestOfAllShortListsAndFewTrees(t *testing.T) {
	for n := range 30 {
		d := scripted(rising(n)...)
		for trees := 1; trees <= 34; trees++ {
			for tree := range trees {
				if got, want := take(Of(d, tree, trees), n+3), begins(d, tree, trees, n+3); !slices.Equal(got, want) {
					t.Fatal(n, tree, trees, got, want)
				}
			}
		}
	}
}

// Each number of a list is told by just one tree, and those of one tree in the list's order.
func TestOfPartsAListAmongTheTrees(t *testing.T) {
	for n := range 40 {
		for trees := 1; trees <= n+2; trees++ {
			times := make([]int, n+1)
			for tree := range trees {
				last := uint64(0)
				for x := range rng.Draws(Of(scripted(rising(n)...), tree, trees), n+1) {
					if x == 0 {
						continue
					}
					if x <= last {
						t.Fatal(n, tree, trees, x, last)
					}
					times[x]++
					last = x
				}
			}
			if slices.ContainsFunc(times[1:], func(k int) bool { return k != 1 }) {
				t.Fatal(n, trees, times)
			}
		}
	}
}

func TestOfALongList(t *testing.T) {
	d := scripted(rising(100003)...)
	for _, trees := range []int{1, 2, 7, 255, api.MaxTrees, 100002, 100003, 100004} {
		for _, tree := range []int{0, trees / 2, trees - 1} {
			if got, want := take(Of(d, tree, trees), 100010), begins(d, tree, trees, 100010); !slices.Equal(got, want) {
				t.Error(tree, trees)
			}
		}
	}
}

// So many trees that the place behind the list's end would go round.
func TestOfAListAndVeryManyTrees(t *testing.T) {
	d := scripted(1, 2, 3, 4, 5)
	for _, trees := range []int{1 << 31, 1 << 62, math.MaxInt - 4, math.MaxInt - 1, math.MaxInt} {
		for tree := range 7 {
			want := []uint64{0, 0, 0}
			if tree < 5 {
				want[0] = uint64(tree) + 1
			}
			if l := take(Of(d, tree, trees), 3); !slices.Equal(l, want) {
				t.Error(tree, trees, l)
			}
		}
		if l := take(Of(d, trees-1, trees), 3); !slices.Equal(l, zeros(3)) {
			t.Error(trees, l)
		}
	}
}

func TestOfAListPlaysTheSeedNoPart(t *testing.T) {
	for _, seed := range seeds() {
		d := api.Draws{Scripted: true, Seed: seed, List: []uint64{1, 2, 3}}
		if l := take(Of(d, 1, 2), 3); !slices.Equal(l, []uint64{2, 0, 0}) {
			t.Fatal(seed, l)
		}
	}
}

// P6.1: Of, by a seed

func TestOfASeed(t *testing.T) {
	for _, seed := range seeds() {
		for _, trees := range []int{1, 2, 3, 10, api.MaxTrees} {
			for _, tree := range []int{0, trees / 3, trees - 1} {
				got, want := take(Of(seeded(seed), tree, trees), 20), begins(seeded(seed), tree, trees, 20)
				if !slices.Equal(got, want) {
					t.Fatalf("%X, %d, %d: %X, not %X", seed, tree, trees, got, want)
				}
			}
		}
	}
}

func TestOfASeedIsAMixerOfTheNthDraw(t *testing.T) {
	for _, tree := range []int{0, 1, 255, 256, 1 << 32, math.MaxInt - 1} {
		got, want := take(Of(seeded(6), tree, tree+1), 20), take(rng.Mix(Nth(6, tree)), 20)
		if !slices.Equal(got, want) {
			t.Errorf("%d: %X, not %X", tree, got, want)
		}
	}
}

func TestOfASeedPlaysTheListNoPart(t *testing.T) {
	for _, l := range [][]uint64{nil, {}, {1, 2, 3}, rising(300)} {
		d := api.Draws{Seed: 4, List: l}
		if got := take(Of(d, 2, 5), 9); !slices.Equal(got, begins(seeded(4), 2, 5, 9)) {
			t.Error(l, got)
		}
	}
}

// Nor does it how many trees there are, if it is one of them.
func TestOfASeedHangsOnNoNumberOfTrees(t *testing.T) {
	want := take(Of(seeded(8), 2, 3), 9)
	for _, trees := range []int{4, 5, 256, 1 << 40, math.MaxInt} {
		if got := take(Of(seeded(8), 2, trees), 9); !slices.Equal(got, want) {
			t.Error(trees, got)
		}
	}
}

func TestOfTheZeroDrawsIsOfTheSeedZero(t *testing.T) {
	if got := Of(api.Draws{}, 0, 1).Draw(); got != rng.Mix(0xE220A8397B1DCDAF).Draw() {
		t.Errorf("%X", got)
	}
}

// P6.1: Of, of a tree that isn't

func TestOfATreeThatIsNoneIsAScriptOfNothing(t *testing.T) {
	for _, d := range kinds() {
		for _, x := range [][2]int{
			{-1, 2}, {-2, 2}, {-1, 1}, {-256, 256}, {-1, math.MaxInt}, {math.MinInt, 2}, {math.MinInt, math.MaxInt},
			{1, 1}, {2, 2}, {3, 2}, {4, 2}, {256, 256}, {math.MaxInt, 2}, {math.MaxInt, math.MaxInt},
			{0, 0}, {1, 0}, {-1, 0}, {math.MaxInt, 0}, {math.MinInt, 0},
			{0, -1}, {1, -1}, {-1, -1}, {-2, -1}, {-1, -2}, {0, -2}, {0, math.MinInt}, {math.MinInt, math.MinInt}, {math.MaxInt, math.MinInt}, {-1, math.MinInt},
		} {
			if l := take(Of(d, x[0], x[1]), 50); !slices.Equal(l, zeros(50)) {
				t.Error(d, x, l)
			}
		}
	}
}

// P6.1: what is handed in

func TestOfKeepsNoListThatIsHandedIn(t *testing.T) {
	for _, trees := range []int{1, 2} {
		l := rising(6)
		d := scripted(l...)
		want := begins(scripted(rising(6)...), 0, trees, 8)
		s := Of(d, 0, trees)
		l[0] = 99
		got := take(s, 1)
		for i := range l {
			l[i] = 98
		}
		if got = append(got, take(s, 7)...); !slices.Equal(got, want) {
			t.Error(trees, got)
		}
	}
}

func TestNoCallChangesAListThatIsHandedIn(t *testing.T) {
	all := rising(20)
	d := scripted(all[:10]...)
	for _, trees := range []int{-1, 0, 1, 2, 3, 10, 11} {
		take(Of(d, 0, trees), 30)
		for _, s := range All(d, trees) {
			take(s, 30)
		}
	}
	if !slices.Equal(all, rising(20)) || len(d.List) != 10 {
		t.Error(all, d.List)
	}
	// Nor is the spare room behind the list told.
	if l := take(Of(d, 0, 1), 11); !slices.Equal(l, append(rising(10), 0)) {
		t.Error(l)
	}
}

// P6.1: All

func TestAllExample(t *testing.T) {
	want := [][]uint64{{1, 3, 5, 0}, {2, 4, 0, 0}}
	trees := 0
	for tree, s := range All(scripted(1, 2, 3, 4, 5), 2) {
		if tree != trees || !slices.Equal(take(s, 4), want[tree]) {
			t.Error(tree)
		}
		trees++
	}
	if trees != 2 {
		t.Error(trees)
	}
}

// whole is no number of trees at which a range is broken off.
const whole = -1

// told are the first draws of each tree that is told, till there are so many trees; that these come from 0 on is looked at.
func told(t *testing.T, all iter.Seq2[int, rng.Source], stop, n int) [][]uint64 {
	t.Helper()
	var l [][]uint64
	for tree, s := range all {
		if tree != len(l) {
			t.Error("tree", tree, "at the place", len(l))
		}
		l = append(l, take(s, n))
		if len(l) == stop {
			break
		}
	}
	return l
}

// defined are the first draws of each of some trees, up to so many.
func defined(d api.Draws, upTo, trees, n int) [][]uint64 {
	var l [][]uint64
	for tree := range upTo {
		l = append(l, begins(d, tree, trees, n))
	}
	return l
}

func sameLists(a, b [][]uint64) bool { return slices.EqualFunc(a, b, slices.Equal) }

func TestAllTellsEachTreeAndItsStream(t *testing.T) {
	for _, d := range kinds() {
		for _, trees := range []int{0, 1, 2, 3, 5, 13, 14, 256} {
			if got, want := told(t, All(d, trees), whole, 16), defined(d, trees, trees, 16); !sameLists(got, want) {
				t.Error(d, trees, got)
			}
		}
	}
}

func TestAllOfOneTreeIsTheWholeList(t *testing.T) {
	if l := told(t, All(scripted(rising(9)...), 1), whole, 10); !sameLists(l, [][]uint64{append(rising(9), 0)}) {
		t.Error(l)
	}
}

func TestAllOfNoTreesAndOfLess(t *testing.T) {
	for _, d := range kinds() {
		for _, trees := range []int{0, -1, -2, -256, -1 << 32, math.MinInt + 1, math.MinInt} {
			for tree, s := range All(d, trees) {
				t.Error(d, trees, tree, s)
			}
		}
	}
}

func TestAllBrokenOffAndBegunAgain(t *testing.T) {
	const trees = 7
	for _, d := range kinds() {
		all := All(d, trees)
		for stop := 1; stop <= trees; stop++ {
			if got := told(t, all, stop, 9); !sameLists(got, defined(d, stop, trees, 9)) {
				t.Error(d, stop, got)
			}
			if got := told(t, all, whole, 9); !sameLists(got, defined(d, trees, trees, 9)) {
				t.Error(d, stop, got)
			}
		}
	}
}

// A range within a range of the same: neither takes anything of the other one.
func TestAllBegunAgainAheadOfItsEnd(t *testing.T) {
	for _, d := range kinds() {
		all := All(d, 4)
		for tree, s := range all {
			first := take(s, 1)
			if got := told(t, all, whole, 9); !sameLists(got, defined(d, 4, 4, 9)) {
				t.Error(d, tree, got)
			}
			if got := append(first, take(s, 8)...); !slices.Equal(got, begins(d, tree, 4, 9)) {
				t.Error(d, tree, got)
			}
		}
	}
}

// Of the greatest numbers nothing is made ahead: they can be broken off at once.
func TestAllOfVeryManyTreesThatAreBrokenOff(t *testing.T) {
	for _, d := range []api.Draws{seeded(3), scripted(1, 2, 3)} {
		for _, trees := range []int{1 << 40, math.MaxInt - 1, math.MaxInt} {
			if got := told(t, All(d, trees), 5, 4); !sameLists(got, defined(d, 5, trees, 4)) {
				t.Error(trees, got)
			}
		}
	}
}

func TestAllKeepsNoListThatIsHandedIn(t *testing.T) {
	for _, trees := range []int{1, 2, 3, 5, 6} {
		want := defined(scripted(rising(5)...), trees, trees, 7)
		l := rising(5)
		all := All(scripted(l...), trees)
		l[0], l[4] = 99, 99
		if got := told(t, all, whole, 7); !sameLists(got, want) {
			t.Error("changed ahead of the range", trees, got)
		}
		for tree, s := range all {
			clear(l)
			if got := take(s, 7); !slices.Equal(got, want[tree]) {
				t.Error("changed within the range", trees, got)
			}
		}
		if got := told(t, all, whole, 7); !sameLists(got, want) {
			t.Error("changed ahead of another range", trees, got)
		}
	}
}

// P6.2

// orders are the trees from 0 on, rising, falling, and mixed.
func orders(trees int) [][]int {
	rise := make([]int, trees)
	for i := range rise {
		rise[i] = i
	}
	fall := slices.Clone(rise)
	slices.Reverse(fall)
	r := rand.New(rand.NewSource(int64(trees)))
	return [][]int{rise, fall, r.Perm(trees), r.Perm(trees)}
}

func TestStreamsAskedInWhateverOrder(t *testing.T) {
	for _, d := range kinds() {
		for _, trees := range []int{1, 2, 5, 14} {
			for _, order := range orders(trees) {
				for _, tree := range order {
					if got, want := take(Of(d, tree, trees), 16), begins(d, tree, trees, 16); !slices.Equal(got, want) {
						t.Fatal(d, order, tree, got, want)
					}
				}
			}
		}
	}
}

// streamsOf are all trees' streams, asked one by one in an order, or told by All.
func streamsOf(d api.Draws, order []int, byAll bool) []rng.Source {
	l := make([]rng.Source, len(order))
	if byAll {
		for tree, s := range All(d, len(order)) {
			l[tree] = s
		}
		return l
	}
	for _, tree := range order {
		l[tree] = Of(d, tree, len(order))
	}
	return l
}

func TestStreamsDrawnOfByTurns(t *testing.T) {
	for _, d := range kinds() {
		for _, trees := range []int{1, 2, 5, 14} {
			for _, order := range orders(trees) {
				for _, byAll := range []bool{false, true} {
					streams := streamsOf(d, order, byAll)
					got := make([][]uint64, trees)
					for range 16 {
						for _, tree := range order {
							got[tree] = append(got[tree], streams[tree].Draw())
						}
					}
					if !sameLists(got, defined(d, trees, trees, 16)) {
						t.Fatal(d, order, byAll, got)
					}
				}
			}
		}
	}
}

// One stream that is drawn of to its end and far behind takes nothing of the others, nor of one of the same tree.
func TestStreamsBesideOneThatIsUsedUp(t *testing.T) {
	for _, d := range kinds() {
		for used := range 4 {
			streams := streamsOf(d, []int{0, 1, 2, 3}, true)
			same := Of(d, used, 4)
			take(streams[used], 500)
			for tree, s := range streams {
				if tree == used {
					s = same
				}
				if got, want := take(s, 16), begins(d, tree, 4, 16); !slices.Equal(got, want) {
					t.Fatal(d, used, tree, got, want)
				}
			}
		}
	}
}

// What the other trees' numbers of a list are plays no part in a tree's stream.
func TestStreamsHangOnTheirOwnNumbersAlone(t *testing.T) {
	const trees = 4
	list := rising(22)
	for tree := range trees {
		want := take(Of(scripted(list...), tree, trees), 9)
		others := slices.Clone(list)
		for place := range others {
			if place%trees != tree {
				others[place] = most - uint64(place)
			}
		}
		if got := take(Of(scripted(others...), tree, trees), 9); !slices.Equal(got, want) {
			t.Error(tree, got, want)
		}
	}
}

func TestStreamsDrawnOfSideBySide(t *testing.T) {
	for _, d := range []api.Draws{seeded(11), scripted(rising(1000)...)} {
		const trees = 16
		all := All(d, trees)
		got := make([][]uint64, trees)
		var ended sync.WaitGroup
		for tree := range trees {
			ended.Go(func() {
				for k, s := range all {
					if k == tree {
						got[tree] = take(s, 100)
					}
				}
			})
		}
		ended.Wait()
		if !sameLists(got, defined(d, trees, trees, 100)) {
			t.Error(d.Scripted, got)
		}
	}
}
