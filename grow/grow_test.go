package grow

import (
	"fmt"
	"math"
	"math/big"
	"math/rand"
	"slices"
	"sync"
	"testing"

	"shelterbelt/api"
	"shelterbelt/data"
	"shelterbelt/plane"
	"shelterbelt/rng"
	"shelterbelt/split"
)

const (
	mostCoord = 1048576 // what a vector's coordinate may be, either way
	mostLeaf  = 1024
	mostDepth = 64
	mostTrees = 256
)

// The chapter's words, anew: a plain recursion, in which a child's nodes are told from 0 on and moved to where they stand.

// moved are nodes that stand so many places further on.
func moved(nodes []api.Node, by int) []api.Node {
	var l []api.Node
	for _, n := range nodes {
		if !n.Leaf {
			n.Left += by
			n.Right += by
		}
		l = append(l, n)
	}
	return l
}

// recursed is a tree of ids at a depth; drawn is told how many tries each split took.
func recursed(x *data.Items, ids []int, depth int, p api.Params, s rng.Source, drawn func(tries int)) []api.Node {
	if len(ids) <= p.Leaf || depth == p.Depth {
		return []api.Node{{Leaf: true, Ids: ids}}
	}
	both := split.Choose(x, ids, s)
	drawn(both.Tries)
	left := recursed(x, both.Left, depth+1, p, s, drawn)
	right := recursed(x, both.Right, depth+1, p, s, drawn)
	root := api.Node{Plane: both.Plane, Left: 1, Right: 1 + len(left)}
	return slices.Concat([]api.Node{root}, moved(left, 1), moved(right, 1+len(left)))
}

// defined is a tree of all items by the chapter's words, and how many draws it takes.
func defined(x *data.Items, p api.Params, s rng.Source) ([]api.Node, int) {
	draws := 0
	nodes := recursed(x, upTo(x.Len()), 0, p, s, func(tries int) { draws += 2 * tries })
	return nodes, draws
}

// checked is what Check answers, by the chapter's words.
func checked(p api.Params) api.Errno {
	within := func(n, least, most int) bool { return least <= n && n <= most }
	if !within(p.Leaf, 1, mostLeaf) || !within(p.Depth, 0, mostDepth) {
		return api.ErrRange
	}
	if !within(p.Trees, 1, mostTrees) {
		return api.ErrCount
	}
	return api.OK
}

// alike: field by field, an empty list as a nil one?
func alike(a, b api.Node) bool {
	return a.Leaf == b.Leaf && slices.Equal(a.Ids, b.Ids) && slices.Equal(a.Plane.Normal, b.Plane.Normal) &&
		a.Plane.Offset == b.Plane.Offset && a.Left == b.Left && a.Right == b.Right
}

// same: node by node?
func same(a, b []api.Node) bool { return slices.EqualFunc(a, b, alike) }

// copied are nodes of their own memory.
func copied(nodes []api.Node) []api.Node {
	var l []api.Node
	for _, n := range nodes {
		n.Ids, n.Plane.Normal = slices.Clone(n.Ids), slices.Clone(n.Plane.Normal)
		l = append(l, n)
	}
	return l
}

// What is handed in.

// by are params of one tree.
func by(leaf, depth int) api.Params { return api.Params{Trees: 1, Leaf: leaf, Depth: depth} }

// made are items of vectors that all may be.
func made(t *testing.T, dim int, l ...[]int32) *data.Items {
	t.Helper()
	x, e := data.Of(dim, l...)
	if e != api.OK {
		t.Fatal(dim, e)
	}
	return x
}

// line are items of dimension 1.
func line(t *testing.T, l ...int32) *data.Items {
	t.Helper()
	x := made(t, 1)
	for _, n := range l {
		x.Add([]int32{n})
	}
	return x
}

// filled is a vector of n coordinates that are all c.
func filled(n int, c int32) []int32 { return slices.Repeat([]int32{c}, n) }

// alikeItems are n items that are all the same.
func alikeItems(t *testing.T, n, dim int, c int32) *data.Items {
	t.Helper()
	x := made(t, dim)
	for range n {
		x.Add(filled(dim, c))
	}
	return x
}

// row are the items 0, 1, 2 and so on of dimension 1.
func row(t *testing.T, n int) *data.Items {
	t.Helper()
	x := made(t, 1)
	for i := range n {
		x.Add([]int32{int32(i)})
	}
	return x
}

// upTo are the ids from 0 on below n.
func upTo(n int) []int {
	l := make([]int, n)
	for i := range l {
		l[i] = i
	}
	return l
}

// drawnItems are n items, of which every third one is the same as one ahead of it.
func drawnItems(t *testing.T, r *rand.Rand, n, dim int, within int64) *data.Items {
	t.Helper()
	var l [][]int32
	for i := range n {
		v := make([]int32, dim)
		for place := range v {
			v[place] = int32(r.Int63n(2*within+1) - within)
		}
		if i > 0 && r.Intn(3) == 0 {
			v = l[r.Intn(i)]
		}
		l = append(l, v)
	}
	return made(t, dim, l...)
}

// drawnScript are up to most-1 draws, small ones and great ones.
func drawnScript(r *rand.Rand, most int) []uint64 {
	var l []uint64
	for range r.Intn(most) {
		l = append(l, r.Uint64()>>[]int{0, 32, 60}[r.Intn(3)])
	}
	return l
}

// never is a source of which nothing may be drawn.
type never struct{ t *testing.T }

func (n never) Draw() uint64 {
	n.t.Error("a draw where nothing is split")
	return 0
}

// each tells all rows of so many numbers below n, one in a list that is written over again and again.
func each(length, n int, tell func([]int)) {
	row := make([]int, length)
	for {
		tell(row)
		i := 0
		for i < length && row[i] == n-1 {
			row[i] = 0
			i++
		}
		if i == length {
			return
		}
		row[i]++
	}
}

// What is held against the words.

// holdTree asks for a tree, and holds what is answered, and what was drawn, to the recursion and to what follows from it.
func holdTree(t *testing.T, x *data.Items, p api.Params, source func() rng.Source) []api.Node {
	t.Helper()
	c := rng.Count(source())
	nodes, e := Tree(x, p, c)
	if e != api.OK {
		t.Fatal(p, e)
	}
	want, drawn := defined(x, p, source())
	if !same(nodes, want) {
		t.Fatalf("of %d items, %v: %v, and not %v", x.Len(), p, nodes, want)
	}
	if c.Drawn() != drawn {
		t.Fatalf("of %d items, %v: %d draws, and not %d", x.Len(), p, c.Drawn(), drawn)
	}
	holdShape(t, x.Len(), p, nodes)
	if c.Drawn() > Bound(x.Len()) {
		t.Fatalf("of %d items, %v: %d draws are more than the bound", x.Len(), p, c.Drawn())
	}
	return nodes
}

// holdScript does so by a script.
func holdScript(t *testing.T, x *data.Items, p api.Params, draws ...uint64) []api.Node {
	t.Helper()
	return holdTree(t, x, p, func() rng.Source { return rng.Script(draws...) })
}

// holdMixer does so by a mixer.
func holdMixer(t *testing.T, x *data.Items, p api.Params, state uint64) []api.Node {
	t.Helper()
	return holdTree(t, x, p, func() rng.Source { return rng.Mix(state) })
}

// holdShape holds nodes to be a tree of n items: how many there are, how deep they stand, and what they hold.
func holdShape(t *testing.T, n int, p api.Params, nodes []api.Node) {
	t.Helper()
	leaves, ids, depths := 0, []int(nil), make([]int, len(nodes))
	for place, node := range nodes {
		if depths[place] > p.Depth || place > 0 && depths[place] == 0 {
			t.Fatalf("place %d is %d deep, of %v", place, depths[place], p)
		}
		if node.Leaf {
			leaves++
			ids = append(ids, node.Ids...)
			holdLeaf(t, node, depths[place], p)
			continue
		}
		if len(node.Ids) != 0 || node.Left != place+1 || node.Right <= node.Left || node.Right >= len(nodes) {
			t.Fatal(place, node)
		}
		for _, child := range []int{node.Left, node.Right} {
			if depths[child] != 0 {
				t.Fatal(child, "is a child twice")
			}
			depths[child] = depths[place] + 1
		}
	}
	if slices.Sort(ids); !slices.Equal(ids, upTo(n)) {
		t.Fatal("leaves have", ids)
	}
	if 2*leaves-1 != len(nodes) || len(nodes) > 2*n-1 {
		t.Fatal(leaves, "leaves of", len(nodes), "nodes, of", n, "items")
	}
}

func holdLeaf(t *testing.T, node api.Node, depth int, p api.Params) {
	t.Helper()
	if len(node.Ids) == 0 || len(node.Ids) > p.Leaf && depth < p.Depth || !slices.IsSorted(node.Ids) {
		t.Fatal(node, depth, p)
	}
	if len(node.Plane.Normal) != 0 || node.Plane.Offset != 0 || node.Left != 0 || node.Right != 0 {
		t.Fatal(node)
	}
}

// depthOf is how deep a list of nodes goes.
func depthOf(nodes []api.Node) int {
	depths, deepest := make([]int, len(nodes)), 0
	for place, node := range nodes {
		deepest = max(deepest, depths[place])
		if !node.Leaf {
			depths[node.Left], depths[node.Right] = depths[place]+1, depths[place]+1
		}
	}
	return deepest
}

// P13.1: Check

// draws are draws of any kind, which play no part in what a tree is.
func draws() []api.Draws {
	return []api.Draws{{}, {Seed: 7}, {Scripted: true}, {Scripted: true, Seed: 3, List: []uint64{1, 2, 3}}, {Scripted: true, List: []uint64{math.MaxUint64}}, {List: []uint64{5}}, {Seed: math.MaxUint64}}
}

func edges(least, most int) []int {
	return []int{math.MinInt, math.MinInt + 1, -1 << 32, -1<<32 + least, -most, -2, -1, 0, 1, 2, least, least - 1, least + 1, most - 1, most, most + 1, 2 * most, 1 << 31, 1 << 32, 1<<32 + least, math.MaxInt - 1, math.MaxInt}
}

func TestCheckAtTheEdges(t *testing.T) {
	for _, x := range []struct {
		trees, leaf, depth int
		want               api.Errno
	}{
		{1, 0, 1, api.ErrRange}, {1, 1, 1, api.OK}, {1, 1024, 1, api.OK}, {1, 1025, 1, api.ErrRange}, {1, -1, 1, api.ErrRange},
		{1, 1, -1, api.ErrRange}, {1, 1, 0, api.OK}, {1, 1, 64, api.OK}, {1, 1, 65, api.ErrRange},
		{0, 1, 1, api.ErrCount}, {-1, 1, 1, api.ErrCount}, {256, 1, 1, api.OK}, {257, 1, 1, api.ErrCount},
		{0, 0, 1, api.ErrRange}, {257, 1, 65, api.ErrRange}, {0, 0, -1, api.ErrRange}, {1, 0, -1, api.ErrRange}, {0, 1, 0, api.ErrCount},
	} {
		for _, d := range draws() {
			if e := Check(api.Params{Trees: x.trees, Leaf: x.leaf, Depth: x.depth, Draws: d}); e != x.want {
				t.Error(x, d, e)
			}
		}
	}
}

func TestCheckOfAllEdgesAtOnce(t *testing.T) {
	for _, leaf := range edges(1, mostLeaf) {
		for _, depth := range edges(0, mostDepth) {
			for _, trees := range edges(1, mostTrees) {
				for _, d := range draws()[:4] {
					p := api.Params{Trees: trees, Leaf: leaf, Depth: depth, Draws: d}
					if e := Check(p); e != checked(p) {
						t.Fatal(p, e)
					}
				}
			}
		}
	}
}

// P13.1: Tree of what it can't be grown of

func TestTreeOfParamsThatMayNotBe(t *testing.T) {
	full, empty := line(t, 3, 1, 2), made(t, 1)
	for _, leaf := range edges(1, mostLeaf) {
		for _, depth := range edges(0, mostDepth) {
			for _, trees := range edges(1, mostTrees) {
				p := api.Params{Trees: trees, Leaf: leaf, Depth: depth}
				want := checked(p)
				if want == api.OK {
					continue
				}
				for _, x := range []*data.Items{full, empty} {
					if nodes, e := Tree(x, p, never{t}); e != want || len(nodes) != 0 {
						t.Fatal(p, nodes, e)
					}
				}
			}
		}
	}
}

func TestTreeOfNoItems(t *testing.T) {
	for _, dim := range []int{1, 2, 1024} {
		for _, p := range []api.Params{by(1, 0), by(1, 64), by(1024, 64), {Trees: 256, Leaf: 5, Depth: 3}} {
			if nodes, e := Tree(made(t, dim), p, never{t}); e != api.ErrEmpty || len(nodes) != 0 {
				t.Error(dim, p, nodes, e)
			}
		}
	}
}

// P13.1: Bound

func TestBound(t *testing.T) {
	for n, want := range map[int]int{math.MinInt: 0, math.MinInt + 1: 0, -1 << 61: 0, -1 << 32: 0, -5: 0, -1: 0, 0: 0, 1: 0, 2: 8, 3: 16, 50: 392, 100: 792, 1 << 20: 8388600, 1 << 31: 17179869176} {
		if got := Bound(n); got != want {
			t.Error(n, got)
		}
	}
	for n := 1; n < 3000; n++ {
		if Bound(n+1)-Bound(n) != 8 {
			t.Error(n)
		}
	}
}

// Rule 7: numbers that are too great go round.
func TestBoundOfTheGreatest(t *testing.T) {
	for _, n := range []int{1 << 40, 1 << 59, 1<<60 + 1, 1<<60 + 2, 1 << 61, 1 << 62, math.MaxInt - 1, math.MaxInt} {
		want := new(big.Int).Sub(big.NewInt(int64(n)), big.NewInt(1))
		want.Mod(want.Mul(want, big.NewInt(8)), new(big.Int).Lsh(big.NewInt(1), 64))
		if got := Bound(n); uint64(got) != want.Uint64() {
			t.Error(n, got, want)
		}
	}
}

// P13.1: Tree, node by node

func TestExample(t *testing.T) {
	x := line(t, 0, 10)
	// 0 is drawn first, so that it is on the Side.
	nodes := holdScript(t, x, by(1, 64), 0, 0)
	want := []api.Node{{Plane: api.Plane{Normal: []int32{-10}, Offset: -100}, Left: 1, Right: 2}, {Leaf: true, Ids: []int{1}}, {Leaf: true, Ids: []int{0}}}
	if !same(nodes, want) {
		t.Error(nodes)
	}
	nodes = holdScript(t, x, by(1, 64), 1, 0)
	want = []api.Node{{Plane: api.Plane{Normal: []int32{10}, Offset: 100}, Left: 1, Right: 2}, {Leaf: true, Ids: []int{0}}, {Leaf: true, Ids: []int{1}}}
	if !same(nodes, want) {
		t.Error(nodes)
	}
}

func TestTreeOfOneItem(t *testing.T) {
	for _, dim := range []int{1, 3, 1024} {
		for _, p := range []api.Params{by(1, 0), by(1, 1), by(1, 64), by(1024, 0), by(1024, 64)} {
			nodes, e := Tree(made(t, dim, filled(dim, 7)), p, never{t})
			if e != api.OK || !same(nodes, []api.Node{{Leaf: true, Ids: []int{0}}}) {
				t.Error(dim, p, nodes, e)
			}
		}
	}
}

// As many as Leaf are one leaf, without a draw; one more is split.
func TestTreeAtTheLeaf(t *testing.T) {
	for _, leaf := range []int{1, 2, 3, 10, 1023, 1024} {
		for _, n := range []int{leaf - 1, leaf} {
			if n == 0 {
				continue
			}
			nodes, e := Tree(row(t, n), by(leaf, 64), never{t})
			if e != api.OK || !same(nodes, []api.Node{{Leaf: true, Ids: upTo(n)}}) {
				t.Error(n, leaf, len(nodes), e)
			}
		}
		nodes := holdMixer(t, row(t, leaf+1), by(leaf, 64), uint64(leaf))
		if len(nodes) != 3 || nodes[0].Leaf {
			t.Error(leaf, len(nodes))
		}
	}
}

func TestTreeOfTwo(t *testing.T) {
	x := line(t, 5, 5)
	nodes := holdScript(t, x, by(1, 1), 1, 0)
	want := []api.Node{{Plane: api.Plane{Normal: []int32{0}}, Left: 1, Right: 2}, {Leaf: true, Ids: []int{0}}, {Leaf: true, Ids: []int{1}}}
	if !same(nodes, want) {
		t.Error(nodes)
	}
}

// At depth 0 all is one leaf, without a draw, however many there are.
func TestTreeOfDepthNought(t *testing.T) {
	for _, n := range []int{1, 2, 5, 1025, 3000} {
		for _, leaf := range []int{1, 2, 1024} {
			nodes, e := Tree(row(t, n), by(leaf, 0), never{t})
			if e != api.OK || !same(nodes, []api.Node{{Leaf: true, Ids: upTo(n)}}) {
				t.Error(n, leaf, nodes, e)
			}
		}
	}
}

// The depth ends a tree ahead of Leaf: the leaves have more, as they stood.
func TestTreeThatDepthEnds(t *testing.T) {
	x := line(t, 9, 1, 8, 2, 7, 3)
	// The places 0 and 1 are 9 and 1: 9, 8, 7 are nearer to 9.
	nodes := holdScript(t, x, by(1, 1), 0, 0, 5, 5, 5)
	want := []api.Node{{Plane: api.Plane{Normal: []int32{8}, Offset: 80}, Left: 1, Right: 2}, {Leaf: true, Ids: []int{1, 3, 5}}, {Leaf: true, Ids: []int{0, 2, 4}}}
	if !same(nodes, want) {
		t.Error(nodes)
	}
	for depth := range 12 {
		nodes := holdScript(t, alikeItems(t, 1024, 2, 4), by(1, depth))
		if deep := min(depth, 10); depthOf(nodes) != deep || len(nodes) != 2<<deep-1 {
			t.Error(depth, depthOf(nodes), len(nodes))
		}
	}
}

// Draws are the split's own, then the left child's, then the right one's.
func TestTreeByWhatIsDrawn(t *testing.T) {
	x := line(t, 1, 2, 3, 4, 5)
	c := rng.Count(rng.Script(0, 2, 1, 0, 2, 1, 1, 0, 77))
	nodes, e := Tree(x, by(1, 64), c)
	want := []api.Node{
		// 1 and 4 of all: 1 and 2 are on the Side.
		{Plane: api.Plane{Normal: []int32{-3}, Offset: -15}, Left: 1, Right: 6},
		// 4 and 3 of 3, 4, 5: 4 and 5 are on it.
		{Plane: api.Plane{Normal: []int32{1}, Offset: 7}, Left: 2, Right: 3},
		{Leaf: true, Ids: []int{2}},
		// The place 0 (2 modulo 2), and the other one, of 4, 5.
		{Plane: api.Plane{Normal: []int32{-1}, Offset: -9}, Left: 4, Right: 5},
		{Leaf: true, Ids: []int{4}},
		{Leaf: true, Ids: []int{3}},
		// 2 and 1 of 1, 2.
		{Plane: api.Plane{Normal: []int32{1}, Offset: 3}, Left: 7, Right: 8},
		{Leaf: true, Ids: []int{0}},
		{Leaf: true, Ids: []int{1}},
	}
	if e != api.OK || !same(nodes, want) {
		t.Error(nodes, e)
	}
	if c.Drawn() != 8 || c.Draw() != 77 {
		t.Error(c.Drawn())
	}
}

// listener is a source that writes down what it told.
type listener struct {
	source rng.Source
	told   []uint64
}

func (l *listener) Draw() uint64 {
	n := l.source.Draw()
	l.told = append(l.told, n)
	return n
}

// A source goes on where a tree ended: the next tree is of the draws behind it.
func TestTreesOfOneSource(t *testing.T) {
	x := line(t, 4, 4, 9, 1, 9, 2, 3, 8)
	heard := &listener{source: rng.Mix(5)}
	var trees [][]api.Node
	for _, p := range []api.Params{by(1, 64), by(2, 64), by(1, 1), by(8, 64), by(1, 0), by(1, 3)} {
		nodes, _ := Tree(x, p, heard)
		trees = append(trees, nodes)
	}
	again := rng.Script(heard.told...)
	for i, p := range []api.Params{by(1, 64), by(2, 64), by(1, 1), by(8, 64), by(1, 0), by(1, 3)} {
		if nodes, _ := defined(x, p, again); !same(nodes, trees[i]) {
			t.Error(i, p)
		}
	}
}

// All rows of up to five items of three kinds, by small leaves and depths, and by short scripts.
func TestTreeOfAllShortRows(t *testing.T) {
	scripts := [][]uint64{nil, {1}, {0, 1, 1, 0}, {2, 2, 0, 1, 1, 1, 0, 0, 2, 0}, {4, 3, 2, 1, 4, 3, 2, 1, 4, 3, 2, 1, 4, 3, 2, 1}}
	for length := 1; length <= 5; length++ {
		each(length, 3, func(row []int) {
			x := made(t, 1)
			for _, n := range row {
				x.Add([]int32{int32(n * n)})
			}
			for _, leaf := range []int{1, 2, 3, 4, 5} {
				for _, depth := range []int{0, 1, 2, 3, 64} {
					for _, s := range scripts {
						holdScript(t, x, by(leaf, depth), s...)
					}
				}
			}
		})
	}
}

func TestTreeByDrawnScripts(t *testing.T) {
	r := rand.New(rand.NewSource(1))
	for range 1500 {
		x := drawnItems(t, r, 1+r.Intn(40), 1+r.Intn(4), []int64{1, 9, mostCoord}[r.Intn(3)])
		p := by(1+r.Intn(5), []int{0, 1, 2, 3, 5, 63, 64}[r.Intn(7)])
		holdScript(t, x, p, drawnScript(r, 80)...)
	}
}

func TestTreeByMixers(t *testing.T) {
	r := rand.New(rand.NewSource(2))
	for range 600 {
		x := drawnItems(t, r, 1+r.Intn(120), 1+r.Intn(4), []int64{0, 1, 50, mostCoord}[r.Intn(4)])
		holdMixer(t, x, by(1+r.Intn(12), r.Intn(65)), r.Uint64())
	}
}

func TestTreeOfManyDimensions(t *testing.T) {
	r := rand.New(rand.NewSource(3))
	for _, dim := range []int{1, 2, 17, 1023, 1024} {
		holdMixer(t, drawnItems(t, r, 30, dim, mostCoord), by(2, 64), uint64(dim))
		x := made(t, dim, filled(dim, mostCoord), filled(dim, -mostCoord), filled(dim, 0))
		nodes := holdScript(t, x, by(1, 64))
		if !slices.Equal(nodes[0].Plane.Normal, filled(dim, 2*mostCoord)) || len(nodes) != 5 {
			t.Error(dim, len(nodes))
		}
	}
}

// A script that ends too soon tells noughts behind its end.
func TestTreeByScriptsThatEndTooSoon(t *testing.T) {
	x := line(t, 7, 3, 3, 8, 1, 7, 20, 5, 3, 19, 2)
	whole := []uint64{5, 3, 9, 1, 2, 2, 6, 6, 7, 3, 1, 8, 4, 4, 2, 9, 10, 3, 5, 5, 1, 0, 1, 1, 0, 1}
	for n := range len(whole) + 1 {
		nodes := holdScript(t, x, by(1, 64), whole[:n]...)
		filledUp := holdScript(t, x, by(1, 64), append(slices.Clone(whole[:n]), make([]uint64, 80)...)...)
		if !same(nodes, filledUp) {
			t.Error(n)
		}
	}
}

// Neither the params' own draws nor how many trees are asked for play a part.
func TestTreeByItsSourceAlone(t *testing.T) {
	x := line(t, 7, 3, 3, 8, 1, 7, 20, 5, 3, 19, 2)
	plain := holdScript(t, x, by(2, 3), 4, 2, 6, 1)
	for _, trees := range []int{1, 2, 100, 256} {
		for _, d := range draws() {
			nodes := holdScript(t, x, api.Params{Trees: trees, Leaf: 2, Depth: 3, Draws: d}, 4, 2, 6, 1)
			if !same(nodes, plain) {
				t.Error(trees, d, nodes)
			}
		}
	}
	if other := holdScript(t, x, by(2, 3), 3, 8, 6, 1); same(other, plain) {
		t.Error("what is drawn plays no part")
	}
}

// P13.2: what follows

// Items that are all the same end in halves of halves, and take as many draws as the bound says.
func TestTreeOfItemsThatAreAllTheSame(t *testing.T) {
	for _, dim := range []int{1, 2, 1024} {
		for _, n := range []int{2, 3, 7, 8, 50} {
			x := alikeItems(t, n, dim, -mostCoord)
			nodes := holdMixer(t, x, by(1, 64), uint64(n))
			if len(nodes) != 2*n-1 {
				t.Error(dim, n, len(nodes))
			}
			var ids []int
			for _, node := range nodes {
				if !node.Leaf && !plane.Same(node.Plane, plane.Flat(dim)) {
					t.Error(dim, n, node.Plane)
				}
				ids = append(ids, node.Ids...)
			}
			if !slices.Equal(ids, upTo(n)) {
				t.Error(ids)
			}
			c := rng.Count(rng.Script())
			if Tree(x, by(1, 64), c); c.Drawn() != Bound(n) {
				t.Error(n, c.Drawn())
			}
		}
	}
}

func TestTreeOfItemsOfWhichSomeAreTheSame(t *testing.T) {
	for seed := range uint64(40) {
		x := made(t, 2)
		for i := range int32(60) {
			x.Add([]int32{i % 4 * 5, i % 3 * 7})
		}
		for _, leaf := range []int{1, 4, 5, 6} {
			holdMixer(t, x, by(leaf, 64), seed)
		}
	}
}

// steep are draws by which each split of the items 0 to n-1 leaves as few as may be on the right: the least ones.
func steep(n, leaf, depth int) []uint64 {
	if n <= leaf || depth == mostDepth {
		return nil
	}
	few := (n + 7) / 8
	// Of the places 0 and 2*few-1 the least few are nearer to the first.
	other := min(2*few-1, n-1)
	if n < 3 {
		few, other = 1, 1
	}
	draws := []uint64{0, uint64(other - 1)}
	draws = append(draws, steep(n-few, leaf, depth+1)...)
	return append(draws, steep(few, leaf, depth+1)...)
}

func TestTreeThatGoesAsDeepAsMayBe(t *testing.T) {
	const n = 30000
	draws := steep(n, 1, 0)
	c := rng.Count(rng.Script(draws...))
	nodes, e := Tree(row(t, n), by(1, mostDepth), c)
	if e != api.OK || c.Drawn() != len(draws) {
		t.Fatal(e, c.Drawn(), len(draws))
	}
	holdShape(t, n, by(1, mostDepth), nodes)
	if deep := depthOf(nodes); deep != mostDepth {
		t.Error(deep)
	}
	deepest := nodes[mostDepth]
	if !deepest.Leaf || len(deepest.Ids) < 2 || !slices.IsSorted(deepest.Ids) || deepest.Ids[len(deepest.Ids)-1] != n-1 {
		t.Error(deepest)
	}
	holdScript(t, row(t, 500), by(3, 20), steep(500, 3, 0)...)
}

func TestTreeOfManyItems(t *testing.T) {
	r := rand.New(rand.NewSource(4))
	x := drawnItems(t, r, 20000, 3, 1000)
	for _, p := range []api.Params{by(1, 64), by(1024, 64), by(16, 5)} {
		nodes := holdMixer(t, x, p, 9)
		if deep := depthOf(nodes); deep > p.Depth {
			t.Error(p, deep)
		}
	}
}

// Rule 3: what is handed in is neither changed nor kept, and answers are new memory

// spoil writes into nodes, and behind the ends of their lists.
func spoil(nodes []api.Node) {
	for i, node := range nodes {
		spoilOne(node)
		nodes[i] = api.Node{Left: -5}
	}
	_ = append(nodes, api.Node{Left: -6}, api.Node{Left: -7})
}

func spoilOne(node api.Node) {
	ids, normal := node.Ids[:cap(node.Ids)], node.Plane.Normal[:cap(node.Plane.Normal)]
	for i := range ids {
		ids[i] = -77
	}
	for i := range normal {
		normal[i] = -78
	}
}

func TestTreesAreNewMemory(t *testing.T) {
	items := [][]int32{{1, 2}, {3, 4}, {1, 2}, {-5, 6}, {7, -8}, {1, 2}, {9, 9}}
	x := made(t, 2, items...)
	for _, p := range []api.Params{by(1, 64), by(2, 64), by(3, 1), by(7, 64), by(1, 0)} {
		want := copied(holdMixer(t, x, p, 6))
		first, _ := Tree(x, p, rng.Mix(6))
		second, _ := Tree(x, p, rng.Mix(6))
		spoil(first)
		if !same(second, want) {
			t.Error(p, "two answers share memory")
		}
		if third, _ := Tree(x, p, rng.Mix(6)); !same(third, want) {
			t.Error(p, "what was answered ahead tells in what is answered next")
		}
		for id, v := range x.All() {
			if !slices.Equal(v, items[id]) {
				t.Error(p, "an item is another one", id, v)
			}
		}
	}
}

// No two lists of one answer share memory, neither what they hold nor the room behind it.
func TestListsOfATreeShareNothing(t *testing.T) {
	for n := 1; n < 20; n++ {
		x := row(t, n)
		for _, p := range []api.Params{by(1, 64), by(2, 64), by(3, 2), by(7, 1), by(1, 1), by(1, 0)} {
			for state := range uint64(4) {
				holdApart(t, x, p, state)
			}
		}
	}
}

// holdApart writes into one node after the other, each of an answer of its own.
func holdApart(t *testing.T, x *data.Items, p api.Params, state uint64) {
	t.Helper()
	want := copied(holdMixer(t, x, p, state))
	for spoilt := range want {
		nodes, _ := Tree(x, p, rng.Mix(state))
		spoilOne(nodes[spoilt])
		for i, node := range nodes {
			if i != spoilt && !alike(node, want[i]) {
				t.Fatal(p, spoilt, i, node)
			}
		}
	}
}

func TestNoCallChangesWhatIsHandedIn(t *testing.T) {
	room := []uint64{4, 2, 6, 1, 9, 9}
	list, script := room[:4], []uint64{3, 1, 2, 0, 5}
	p := api.Params{Trees: 2, Leaf: 1, Depth: 64, Draws: api.Draws{Scripted: true, Seed: 4, List: list}}
	x := line(t, 5, 1, 4, 2, 3)
	for range 3 {
		nodes, _ := Tree(x, p, rng.Script(script...))
		Check(p)
		spoil(nodes)
	}
	if !slices.Equal(room, []uint64{4, 2, 6, 1, 9, 9}) || !slices.Equal(script, []uint64{3, 1, 2, 0, 5}) || p.Draws.Seed != 4 {
		t.Error(room, script, p)
	}
	if got := fmt.Sprint(slices.Collect(func(yield func([]int32) bool) {
		for _, v := range x.All() {
			if !yield(v) {
				return
			}
		}
	})); got != "[[5] [1] [4] [2] [3]]" {
		t.Error(got)
	}
}

// A tree is of the items that are there when it is asked for, and stays as it is when more come.
func TestTreeOfItemsThatCameSince(t *testing.T) {
	x := line(t, 5, 1)
	first := holdScript(t, x, by(1, 64))
	want := copied(first)
	x.Add([]int32{9})
	x.Add([]int32{9})
	if second := holdScript(t, x, by(1, 64)); len(second) != 7 {
		t.Error(second)
	}
	if !same(first, want) {
		t.Error(first)
	}
}

// Rule 4: who asks side by side is answered as one who asks alone.
func TestAskedSideBySide(t *testing.T) {
	r := rand.New(rand.NewSource(5))
	x := drawnItems(t, r, 80, 3, 20)
	want := make([][]api.Node, 8)
	for w := range want {
		want[w] = copied(holdMixer(t, x, by(2, 64), uint64(w)))
	}
	wrongs := make([]int, len(want))
	var ended sync.WaitGroup
	for w := range wrongs {
		ended.Go(func() {
			for range 40 {
				nodes, e := Tree(x, by(2, 64), rng.Mix(uint64(w)))
				if e != api.OK || !same(nodes, want[w]) {
					wrongs[w]++
				}
				spoil(nodes)
			}
		})
	}
	ended.Wait()
	if !slices.Equal(wrongs, make([]int, len(want))) {
		t.Error(wrongs)
	}
}
