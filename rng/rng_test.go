package rng

import (
	"math"
	"math/big"
	"math/rand"
	"slices"
	"testing"
)

const most = math.MaxUint64

// take are the next draws of a source, so many.
func take(s Source, n int) []uint64 {
	l := make([]uint64, n)
	for i := range l {
		l[i] = s.Draw()
	}
	return l
}

// zeros are so many of them.
func zeros(n int) []uint64 { return make([]uint64, n) }

// words are numbers of 64 bits of all kinds: both ends, both sides of the middle, single bits.
func words() []uint64 {
	l := []uint64{0, 1, 2, 3, 10, 1<<31 - 1, 1 << 31, 1<<32 - 1, 1 << 32, 1<<53 + 1, 1<<63 - 1, 1 << 63, 1<<63 + 1, most - 2, most - 1, most}
	for bit := range 64 {
		l = append(l, 1<<bit, most-1<<bit)
	}
	return l
}

// states are of a mixer: words, and those at whose draw the sum is just at an end.
func states() []uint64 {
	const step = 0x9E3779B97F4A7C15
	l := words()
	for _, near := range []uint64{0, 1, 2, most, most - 1, 1 << 63, 1<<63 - 1} {
		l = append(l, near-step, near-step-step)
	}
	return l
}

// mixing is a mixer by whole numbers without an end, of which what is modulo 2 to the 64 is taken at each step: so no number here goes round by itself.
type mixing struct{ state *big.Int }

func mixingOf(state uint64) *mixing { return &mixing{new(big.Int).SetUint64(state)} }

func hex(digits string) *big.Int {
	n, ok := new(big.Int).SetString(digits, 16)
	if !ok || len(digits) != 16 {
		panic(digits)
	}
	return n
}

// cut is a number modulo 2 to the 64.
func cut(n *big.Int) *big.Int {
	return n.Mod(n, new(big.Int).Lsh(big.NewInt(1), 64))
}

// folded is a number put together with itself moved to the right.
func folded(n *big.Int, by uint) *big.Int {
	return new(big.Int).Xor(n, new(big.Int).Rsh(n, by))
}

func (m *mixing) Draw() uint64 {
	m.state = cut(new(big.Int).Add(m.state, hex("9E3779B97F4A7C15")))
	n := cut(new(big.Int).Mul(folded(m.state, 30), hex("BF58476D1CE4E5B9")))
	n = cut(new(big.Int).Mul(folded(n, 27), hex("94D049BB133111EB")))
	return folded(n, 31).Uint64()
}

// own is a source that isn't of this package: what works with sources works with this one, too.
type own struct{ next, drawn uint64 }

func (o *own) Draw() uint64 {
	o.drawn++
	o.next = o.next*6364136223846793005 + 1442695040888963407
	return o.next
}

// P5.1: Script

func TestScriptExample(t *testing.T) {
	if l := take(Script(7, 9), 4); !slices.Equal(l, []uint64{7, 9, 0, 0}) {
		t.Error(l)
	}
}

func TestScriptTellsItsListThenZeroForEver(t *testing.T) {
	for n := range len(words()) {
		list := words()[:n]
		want := append(slices.Clone(list), zeros(1000)...)
		if l := take(Script(list...), n+1000); !slices.Equal(l, want) {
			t.Fatal(n, l)
		}
	}
}

func TestScriptOfNothing(t *testing.T) {
	for _, s := range []Source{Script(), Script(nil...), Script([]uint64{}...), Script(words()[:0]...)} {
		if l := take(s, 5); !slices.Equal(l, zeros(5)) {
			t.Error(l)
		}
	}
}

func TestScriptOfZeros(t *testing.T) {
	if l := take(Script(0, 0, 5, 0, 6), 7); !slices.Equal(l, []uint64{0, 0, 5, 0, 6, 0, 0}) {
		t.Error(l)
	}
}

func TestScriptKeepsNoListThatIsHandedIn(t *testing.T) {
	l := []uint64{1, 2, 3, 4}
	s := Script(l...)
	l[0] = 9
	if n := s.Draw(); n != 1 {
		t.Error("changed ahead of all draws", n)
	}
	l[1], l[3] = 9, 9
	if n := take(s, 4); !slices.Equal(n, []uint64{2, 3, 4, 0}) {
		t.Error("changed between draws", n)
	}
}

func TestScriptChangesNoListThatIsHandedIn(t *testing.T) {
	all := words()
	s := Script(all[:5]...)
	take(s, 20)
	if !slices.Equal(all, words()) {
		t.Error(all)
	}
	// Nor is the spare room behind the list told.
	if n := take(Script(all[10:12]...), 3); !slices.Equal(n, []uint64{all[10], all[11], 0}) {
		t.Error(n)
	}
}

func TestScriptsOfOneListAreEachTheirOwn(t *testing.T) {
	l := []uint64{4, 5, 6}
	a, b := Script(l...), Script(l...)
	if n := take(a, 2); !slices.Equal(n, []uint64{4, 5}) {
		t.Error(n)
	}
	if n := take(b, 4); !slices.Equal(n, []uint64{4, 5, 6, 0}) {
		t.Error(n)
	}
	if n := take(a, 2); !slices.Equal(n, []uint64{6, 0}) {
		t.Error(n)
	}
}

// P5.1: Mix

func TestMixExample(t *testing.T) {
	if n := Mix(0).Draw(); n != 0xE220A8397B1DCDAF {
		t.Errorf("%X", n)
	}
}

func TestMixOfKnownStates(t *testing.T) {
	for _, x := range []struct {
		state uint64
		want  []uint64
	}{
		{0, []uint64{0xE220A8397B1DCDAF, 0x6E789E6AA1B965F4, 0x06C45D188009454F}},
		{1234567, []uint64{6457827717110365317, 3203168211198807973, 9817491932198370423, 4593380528125082431, 16408922859458223821}},
	} {
		if l := take(Mix(x.state), len(x.want)); !slices.Equal(l, x.want) {
			t.Errorf("%d: %X", x.state, l)
		}
	}
}

func TestMixIsAsDefinedOfAllKindsOfStates(t *testing.T) {
	for _, state := range states() {
		if got, want := take(Mix(state), 40), take(mixingOf(state), 40); !slices.Equal(got, want) {
			t.Fatalf("%X: %X, not %X", state, got, want)
		}
	}
	r := rand.New(rand.NewSource(1))
	for range 500 {
		state := r.Uint64()
		if got, want := take(Mix(state), 4), take(mixingOf(state), 4); !slices.Equal(got, want) {
			t.Fatalf("%X: %X, not %X", state, got, want)
		}
	}
}

// Of a state that is one step short of 0 all that is mixed is 0, and the state goes round to there.
func TestMixWhoseStateGoesRound(t *testing.T) {
	state := uint64(0)
	state -= 0x9E3779B97F4A7C15
	if l := take(Mix(state), 2); !slices.Equal(l, []uint64{0, 0xE220A8397B1DCDAF}) {
		t.Errorf("%X", l)
	}
}

func TestMixersOfOneStateAreEachTheirOwn(t *testing.T) {
	want := take(Mix(8), 20)
	a, b := Mix(8), Mix(8)
	for i := range want {
		if i%3 == 0 {
			Mix(8).Draw()
		}
		if n := a.Draw(); n != want[i] {
			t.Fatal(i, n)
		}
	}
	if l := take(b, 20); !slices.Equal(l, want) {
		t.Error(l)
	}
}

// P5.1: Count, Drawn

func TestCounterOfWhichNothingWasDrawn(t *testing.T) {
	for _, s := range []Source{Script(), Script(1, 2), Mix(0), &own{}, Count(Mix(3))} {
		c := Count(s)
		if c.Drawn() != 0 || c.Drawn() != 0 {
			t.Error(c.Drawn())
		}
	}
}

func TestCounterTellsWhatItsSourceDoes(t *testing.T) {
	for i, x := range []struct{ counted, alone Source }{
		{Script(), Script()},
		{Script(words()...), Script(words()...)},
		{Mix(most), Mix(most)},
		{&own{next: 5}, &own{next: 5}},
	} {
		c := Count(x.counted)
		for k := range 300 {
			if c.Drawn() != k {
				t.Fatal(i, k, c.Drawn())
			}
			if got, want := c.Draw(), x.alone.Draw(); got != want {
				t.Fatal(i, k, got, want)
			}
		}
		if c.Drawn() != 300 {
			t.Error(i, c.Drawn())
		}
	}
}

// Each draw of a counter is one of its source: none is made ahead, none at a question how many there were.
func TestCounterDrawsOfItsSourceJustThen(t *testing.T) {
	o := &own{}
	c := Count(o)
	for k := range uint64(20) {
		c.Drawn()
		if o.drawn != k {
			t.Fatal(k, o.drawn)
		}
		c.Draw()
	}
	if o.drawn != 20 {
		t.Error(o.drawn)
	}
}

func TestCounterCountsItsOwnDrawsAlone(t *testing.T) {
	s := Script(1, 2, 3, 4)
	s.Draw()
	c := Count(s)
	if c.Drawn() != 0 || c.Draw() != 2 || s.Draw() != 3 || c.Drawn() != 1 || c.Draw() != 4 || c.Drawn() != 2 {
		t.Error(c.Drawn())
	}
}

func TestCounterOfACounter(t *testing.T) {
	inner := Count(Script(5, 6, 7))
	inner.Draw()
	outer := Count(inner)
	if outer.Drawn() != 0 || inner.Drawn() != 1 {
		t.Error(outer.Drawn(), inner.Drawn())
	}
	if outer.Draw() != 6 || outer.Draw() != 7 || outer.Draw() != 0 {
		t.Error("another draw")
	}
	inner.Draw()
	if outer.Drawn() != 3 || inner.Drawn() != 5 {
		t.Error(outer.Drawn(), inner.Drawn())
	}
}

func TestCountersOfOneSource(t *testing.T) {
	s := Script(1, 2, 3)
	a, b := Count(s), Count(s)
	if a.Draw() != 1 || b.Draw() != 2 || b.Draw() != 3 || a.Drawn() != 1 || b.Drawn() != 2 {
		t.Error(a.Drawn(), b.Drawn())
	}
}

// P5.2: Below

// bounds are numbers from 1 on, small and great ones.
func bounds() []int {
	l := []int{1, 2, 3, 4, 5, 7, 10, 16, 255, 256, 1000, 1 << 20, 1<<31 - 1, 1 << 31, 1<<32 + 1, 1 << 53, 1 << 62, math.MaxInt - 1, math.MaxInt}
	return l
}

func TestBelowIsTheNextDrawModuloN(t *testing.T) {
	for _, n := range bounds() {
		for _, draw := range words() {
			c := Count(Script(draw, 1))
			want := new(big.Int).Mod(new(big.Int).SetUint64(draw), big.NewInt(int64(n))).Int64()
			if got := Below(c, n); int64(got) != want || c.Drawn() != 1 {
				t.Fatal(n, draw, got, want, c.Drawn())
			}
		}
	}
}

func TestBelowOfDrawsAtBothEnds(t *testing.T) {
	for _, x := range []struct {
		draw    uint64
		n, want int
	}{
		{0, 1, 0}, {most, 1, 0},
		{0, 2, 0}, {most, 2, 1}, {most - 1, 2, 0},
		{0, 10, 0}, {most, 10, 5}, {1 << 63, 10, 8},
		{0, math.MaxInt, 0}, {most, math.MaxInt, 1}, {most - 1, math.MaxInt, 0}, {most - 2, math.MaxInt, math.MaxInt - 1},
		{math.MaxInt, math.MaxInt, 0}, {math.MaxInt - 1, math.MaxInt, math.MaxInt - 1}, {1 << 63, math.MaxInt, 1},
	} {
		if got := Below(Script(x.draw), x.n); got != x.want {
			t.Error(x.draw, x.n, got, x.want)
		}
	}
}

// Below of 1 is always 0, but it draws.
func TestBelowOfOneDraws(t *testing.T) {
	c := Count(Script(8, 9, 10))
	if Below(c, 1) != 0 || Below(c, 1) != 0 || c.Drawn() != 2 || c.Draw() != 10 {
		t.Error(c.Drawn())
	}
}

func TestBelowTakesOneDrawBehindTheOther(t *testing.T) {
	s := Script(13, 27, 5)
	for i, want := range []int{3, 7, 5, 0, 0} {
		if got := Below(s, 10); got != want {
			t.Error(i, got)
		}
	}
}

func TestBelowOfNoneDrawsNothing(t *testing.T) {
	for _, n := range []int{0, -1, -2, -10, -1 << 31, -1 << 32, math.MinInt + 1, math.MinInt} {
		c := Count(Script(7, 8))
		if got := Below(c, n); got != 0 || c.Drawn() != 0 || c.Draw() != 7 {
			t.Error(n, got, c.Drawn())
		}
	}
}

// P5.2: Pair

func TestPairWhereTheSecondIsBelowJustAtAndAboveTheFirst(t *testing.T) {
	for _, x := range []struct {
		first, second uint64
		n, a, b       int
	}{
		{2, 0, 5, 2, 0}, {2, 1, 5, 2, 1}, {2, 2, 5, 2, 3}, {2, 3, 5, 2, 4},
		{0, 0, 5, 0, 1}, {0, 3, 5, 0, 4},
		{4, 0, 5, 4, 0}, {4, 3, 5, 4, 3},
		{0, 0, 2, 0, 1}, {0, 1, 2, 0, 1}, {1, 0, 2, 1, 0}, {1, most, 2, 1, 0}, {most, most, 2, 1, 0}, {most - 1, most, 2, 0, 1},
		{9, 9, 5, 4, 1}, {7, 6, 5, 2, 3}, // the second one is modulo one less
		{math.MaxInt - 1, math.MaxInt - 2, math.MaxInt, math.MaxInt - 1, math.MaxInt - 2},
		{math.MaxInt - 2, math.MaxInt - 2, math.MaxInt, math.MaxInt - 2, math.MaxInt - 1},
		{0, math.MaxInt - 2, math.MaxInt, 0, math.MaxInt - 1},
		{math.MaxInt, math.MaxInt - 1, math.MaxInt, 0, 1},
	} {
		c := Count(Script(x.first, x.second, 77))
		if a, b := Pair(c, x.n); a != x.a || b != x.b || c.Drawn() != 2 || c.Draw() != 77 {
			t.Error(x, a, b, c.Drawn())
		}
	}
}

func TestPairIsAsDefinedByBelow(t *testing.T) {
	for _, n := range bounds()[1:] {
		for _, first := range words() {
			for _, second := range words() {
				s := Script(first, second)
				wantA, wantB := Below(s, n), Below(s, n-1)
				if !(wantB < wantA) {
					wantB++
				}
				if a, b := Pair(Script(first, second), n); a != wantA || b != wantB {
					t.Fatal(n, first, second, a, b, wantA, wantB)
				}
			}
		}
	}
}

func TestPairOfLessThanTwoDrawsNothing(t *testing.T) {
	for _, n := range []int{1, 0, -1, -2, -5, -1 << 32, math.MinInt + 1, math.MinInt} {
		c := Count(Script(7, 8))
		if a, b := Pair(c, n); a != 0 || b != 0 || c.Drawn() != 0 || c.Draw() != 7 {
			t.Error(n, a, b, c.Drawn())
		}
	}
}

// P5.2: Draws

func TestDrawsOfAScript(t *testing.T) {
	for n := range 9 {
		c := Count(Script(4, 5, 6))
		want := append([]uint64{4, 5, 6}, zeros(9)...)[:n]
		if l := slices.Collect(Draws(c, n)); !slices.Equal(l, want) || c.Drawn() != n {
			t.Error(n, l, c.Drawn())
		}
	}
}

func TestDrawsOfAMixerAndOfOthers(t *testing.T) {
	if l := slices.Collect(Draws(Mix(6), 1000)); !slices.Equal(l, take(Mix(6), 1000)) {
		t.Error("another draw of a mixer")
	}
	if l := slices.Collect(Draws(&own{}, 1000)); !slices.Equal(l, take(&own{}, 1000)) {
		t.Error("another draw of a source that isn't of this package")
	}
}

func TestDrawsOfNoneAndOfLess(t *testing.T) {
	for _, n := range []int{0, -1, -2, -1 << 32, math.MinInt + 1, math.MinInt} {
		c := Count(Script(7, 8))
		for x := range Draws(c, n) {
			t.Error(n, x)
		}
		if c.Drawn() != 0 || c.Draw() != 7 {
			t.Error(n, c.Drawn())
		}
	}
}

func TestDrawsAreDrawnWhenTheyAreAskedFor(t *testing.T) {
	c := Count(Script(1, 2, 3, 4))
	draws := Draws(c, 4)
	if c.Drawn() != 0 {
		t.Error("drawn ahead of the range", c.Drawn())
	}
	k := 0
	for x := range draws {
		k++
		if x != uint64(k) || c.Drawn() != k {
			t.Error(k, x, c.Drawn())
		}
	}
	if k != 4 || c.Drawn() != 4 {
		t.Error(k, c.Drawn())
	}
}

// What somebody else draws between two of them is no more there for them.
func TestDrawsBetweenWhichOthersDraw(t *testing.T) {
	s := Script(1, 2, 3, 4, 5, 6, 7)
	var l []uint64
	draws := Draws(s, 3)
	s.Draw()
	for x := range draws {
		l = append(l, x)
		s.Draw()
	}
	if !slices.Equal(l, []uint64{2, 4, 6}) {
		t.Error(l)
	}
}

func TestDrawsThatAreBrokenOff(t *testing.T) {
	const n = 7
	for stop := 1; stop <= n; stop++ {
		c := Count(Mix(9))
		var l []uint64
		for x := range Draws(c, n) {
			l = append(l, x)
			if len(l) == stop {
				break
			}
		}
		if !slices.Equal(l, take(Mix(9), stop)) || c.Drawn() != stop {
			t.Error(stop, l, c.Drawn())
		}
		// And the source goes on where they were broken off.
		if rest := take(c, n); !slices.Equal(rest, take(Mix(9), stop+n)[stop:]) {
			t.Error(stop, rest)
		}
	}
}

// Of the greatest numbers nothing is made ahead: they can be broken off at once.
func TestDrawsOfVeryManyThatAreBrokenOff(t *testing.T) {
	c := Count(Mix(2))
	for range Draws(c, math.MaxInt) {
		if c.Drawn() == 3 {
			break
		}
	}
	if c.Drawn() != 3 {
		t.Error(c.Drawn())
	}
}

// Who ranges again gets the next n: the source holds no more what was drawn.
func TestDrawsThatAreBegunAgain(t *testing.T) {
	draws := Draws(Script(1, 2, 3, 4, 5, 6, 7), 3)
	for i, want := range [][]uint64{{1, 2, 3}, {4, 5, 6}, {7, 0, 0}} {
		if l := slices.Collect(draws); !slices.Equal(l, want) {
			t.Error(i, l)
		}
	}
	draws = Draws(Script(1, 2, 3, 4, 5, 6, 7), 3)
	for range draws {
		break
	}
	if l := slices.Collect(draws); !slices.Equal(l, []uint64{2, 3, 4}) {
		t.Error(l)
	}
}

// P5.3

func TestPairsAreUnlikeAndBelowN(t *testing.T) {
	check := func(s Source, n int) {
		t.Helper()
		if a, b := Pair(s, n); a == b || a < 0 || b < 0 || a >= n || b >= n {
			t.Fatal(n, a, b)
		}
	}
	for _, n := range bounds()[1:] {
		for _, first := range words() {
			for _, second := range words() {
				check(Script(first, second), n)
			}
		}
		for _, s := range []Source{Script(), Mix(0), Mix(most), &own{}} {
			for range 500 {
				check(s, n)
			}
		}
	}
}

// Each pair of unlike numbers comes up, by just one pair of draws below n and below n - 1.
func TestEachPairComesUp(t *testing.T) {
	for n := 2; n <= 24; n++ {
		met := map[[2]int]int{}
		for first := range n {
			for second := range n - 1 {
				a, b := Pair(Script(uint64(first), uint64(second)), n)
				met[[2]int{a, b}]++
			}
		}
		for a := range n {
			for b := range n {
				want := 1
				if a == b {
					want = 0
				}
				if met[[2]int{a, b}] != want {
					t.Fatal(n, a, b, met[[2]int{a, b}])
				}
			}
		}
		if len(met) != n*(n-1) {
			t.Fatal(n, len(met))
		}
	}
}

// And so it does by what one mixer draws.
func TestEachPairComesUpByAMixer(t *testing.T) {
	const n = 6
	met := map[[2]int]bool{}
	s := Mix(0)
	for range 2000 {
		a, b := Pair(s, n)
		met[[2]int{a, b}] = true
	}
	if len(met) != n*(n-1) {
		t.Error(len(met))
	}
}
