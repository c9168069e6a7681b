package shape

import (
	"iter"
	"math"
	"math/rand"
	"slices"
	"sync"
	"testing"

	"shelterbelt/api"
	"shelterbelt/data"
	"shelterbelt/grow"
	"shelterbelt/plane"
	"shelterbelt/rng"
)

const (
	mostItems  = 1048576
	mostDim    = 1024
	mostDepth  = 64
	mostNormal = 2097152 // what a Normal's coordinate may be, either way
	mostOffset = 9007199254740992
)

// The chapter's words, anew: a recursion from the first place on, by Left, then by Right.

// visit comes to a place, and to all below it: how many these are, and whether all is as the words say. ids are told what leaves have.
func visit(nodes []api.Node, place, depth, dim int, ids func(int)) (size int, ok bool) {
	if place < 0 || place >= len(nodes) || depth > mostDepth {
		return 0, false
	}
	node := nodes[place]
	if node.Leaf {
		for _, id := range node.Ids {
			ids(id)
		}
		return 1, len(node.Plane.Normal) == 0 && node.Plane.Offset == 0 && node.Left == 0 && node.Right == 0
	}
	if len(node.Ids) > 0 || plane.Check(node.Plane, dim) != api.OK || node.Left != place+1 {
		return 0, false
	}
	left, ok := visit(nodes, node.Left, depth+1, dim, ids)
	if !ok || node.Right != place+1+left {
		return 0, false
	}
	right, ok := visit(nodes, node.Right, depth+1, dim, ids)
	return 1 + left + right, ok
}

// defined: is a list a tree, by the words?
func defined(nodes []api.Node, n, dim int) api.Errno {
	if n < 0 || n > mostItems || dim < 1 || dim > mostDim {
		return api.ErrRange
	}
	there := map[int]int{}
	size, ok := visit(nodes, 0, 0, dim, func(id int) { there[id]++ })
	if !ok || size != len(nodes) || len(there) != n {
		return api.ErrNode
	}
	for id := range n {
		if there[id] != 1 {
			return api.ErrNode
		}
	}
	return api.OK
}

// alikeBoth: field by field, an empty list as a nil one?
func alikeBoth(a, b api.Node) bool {
	return a.Leaf == b.Leaf && slices.Equal(a.Ids, b.Ids) && slices.Equal(a.Plane.Normal, b.Plane.Normal) &&
		a.Plane.Offset == b.Plane.Offset && a.Left == b.Left && a.Right == b.Right
}

// What is handed in.

func leaf(ids ...int) api.Node { return api.Node{Leaf: true, Ids: ids} }

// cut is a split of dimension 1.
func cut(left, right int) api.Node {
	return api.Node{Plane: api.Plane{Normal: []int32{3}, Offset: 4}, Left: left, Right: right}
}

// form is how a tree branches: nil is a leaf.
type form struct{ left, right *form }

// over is a split of two forms.
func over(left, right *form) *form { return &form{left, right} }

// built is a tree of a form, whose leaves have the ids of the lists, in their order, and the depth of each place.
func built(f *form, lists [][]int) (nodes []api.Node, depths []int) {
	var put func(f *form, depth int)
	put = func(f *form, depth int) {
		place := len(nodes)
		depths = append(depths, depth)
		if f == nil {
			nodes = append(nodes, leaf(lists[0]...))
			lists = lists[1:]
			return
		}
		nodes = append(nodes, cut(place+1, 0))
		put(f.left, depth+1)
		nodes[place].Right = len(nodes)
		put(f.right, depth+1)
	}
	put(f, 0)
	return nodes, depths
}

// ends: how many leaves a form has.
func ends(f *form) int {
	if f == nil {
		return 1
	}
	return ends(f.left) + ends(f.right)
}

// singles are lists of one id each, from 0 on below n.
func singles(n int) [][]int {
	var l [][]int
	for id := range n {
		l = append(l, []int{id})
	}
	return l
}

// drawnForm is a form of so many leaves.
func drawnForm(r *rand.Rand, leaves int) *form {
	if leaves == 1 {
		return nil
	}
	left := 1 + r.Intn(leaves-1)
	return over(drawnForm(r, left), drawnForm(r, leaves-left))
}

// drawnLists are the ids from 0 on below n in any order, parted in so many lists; some may be empty.
func drawnLists(r *rand.Rand, n, lists int) [][]int {
	l := make([][]int, lists)
	for _, id := range r.Perm(n) {
		at := r.Intn(lists)
		l[at] = append(l[at], id)
	}
	return l
}

// drawnTree is a tree of n ids, its depths, and its lists of ids.
func drawnTree(r *rand.Rand, n, leaves int) ([]api.Node, []int, [][]int) {
	lists := drawnLists(r, n, leaves)
	nodes, depths := built(drawnForm(r, leaves), lists)
	return nodes, depths, lists
}

// chain is a form that goes down so deep, on the side that is told of each depth.
func chain(depth int, toRight func(depth int) bool) *form {
	var f *form
	for d := depth - 1; d >= 0; d-- {
		if toRight(d) {
			f = over(nil, f)
		} else {
			f = over(f, nil)
		}
	}
	return f
}

// chains are forms that go down so deep, on the left, on the right, by turns, and as drawn.
func chains(depth int) []*form {
	r := rand.New(rand.NewSource(int64(depth)))
	return []*form{
		chain(depth, func(int) bool { return false }),
		chain(depth, func(int) bool { return true }),
		chain(depth, func(d int) bool { return d%2 == 0 }),
		chain(depth, func(d int) bool { return d%2 == 1 }),
		chain(depth, func(int) bool { return r.Intn(2) == 0 }),
	}
}

// upTo are the ids from 0 on below n.
func upTo(n int) []int {
	l := make([]int, n)
	for i := range l {
		l[i] = i
	}
	return l
}

// copied are nodes of their own memory.
func copied(nodes []api.Node) []api.Node {
	l := slices.Clone(nodes)
	for i := range l {
		l[i].Ids, l[i].Plane.Normal = slices.Clone(l[i].Ids), slices.Clone(l[i].Plane.Normal)
	}
	return l
}

// small is the tree ((0 3) (1)) (2).
func small() []api.Node {
	return []api.Node{cut(1, 4), cut(2, 3), leaf(0, 3), leaf(1), leaf(2)}
}

// noTrees are lists that are no trees, whatever n: some point to themselves, backwards, or far beyond.
func noTrees() [][]api.Node {
	l := [][]api.Node{nil, {}, {cut(0, 0)}, {cut(1, 2)}, {cut(1, 1), leaf()}, {{}}, {{}, {}, {}}, {leaf(), leaf()}, {leaf(), cut(2, 3)}, small()[:4], small()[:1], small()[1:], append(small(), leaf()), append(small(), cut(6, 7))}
	far := []int{math.MinInt, -1 << 32, -5, -1, 0, 1, 2, 3, 4, 5, 6, 1 << 32, math.MaxInt}
	for _, left := range far {
		for _, right := range far {
			l = append(l, []api.Node{cut(left, right)}, []api.Node{cut(left, right), cut(right, left), leaf(0)})
			for place := range 2 {
				nodes := small()
				if nodes[place].Left != left || nodes[place].Right != right {
					nodes[place].Left, nodes[place].Right = left, right
					l = append(l, nodes)
				}
			}
		}
	}
	return append(l, slices.Repeat([]api.Node{cut(0, 0)}, 3000), slices.Repeat([]api.Node{leaf(math.MinInt, -1, math.MaxInt)}, 3000))
}

// What is held against the words.

// hold holds Check of a list to the words.
func hold(t *testing.T, nodes []api.Node, n, dim int) {
	t.Helper()
	if got, want := Check(nodes, n, dim), defined(nodes, n, dim); got != want {
		t.Fatalf("of %v, %d, %d: %d, and not %d", nodes, n, dim, got, want)
	}
}

// must holds Check of a list to an answer, and the words too.
func must(t *testing.T, want api.Errno, nodes []api.Node, n, dim int) {
	t.Helper()
	hold(t, nodes, n, dim)
	if got := Check(nodes, n, dim); got != want {
		t.Errorf("of %v, %d, %d: %d, and not %d", nodes, n, dim, got, want)
	}
}

// holdTold holds all that is told of a tree to its depths and its lists of ids.
func holdTold(t *testing.T, nodes []api.Node, depths []int, lists [][]int) {
	t.Helper()
	walk := Walk(nodes)
	for range 2 {
		places, told := walked(walk)
		if !slices.Equal(places, upTo(len(nodes))) || !slices.Equal(told, depths) {
			t.Fatal(nodes, places, told)
		}
	}
	leaves := Leaves(nodes)
	for range 2 {
		if told := slices.Collect(leaves); !slices.EqualFunc(told, lists, slices.Equal) {
			t.Fatal(nodes, told)
		}
	}
	if Depth(nodes) != slices.Max(depths) {
		t.Fatal(nodes, Depth(nodes))
	}
	if n, l := Count(nodes); n != len(nodes) || l != len(lists) {
		t.Fatal(nodes, n, l)
	}
}

// walked is all that a range tells.
func walked(walk iter.Seq2[int, int]) (places, depths []int) {
	for place, depth := range walk {
		places, depths = append(places, place), append(depths, depth)
	}
	return places, depths
}

// P14.1: Check

func TestExample(t *testing.T) {
	must(t, api.OK, []api.Node{leaf(0)}, 1, 1)
	must(t, api.OK, []api.Node{leaf(0)}, 1, 7)
}

func TestCheckOfRanges(t *testing.T) {
	lists := append(noTrees(), small(), []api.Node{leaf()}, []api.Node{leaf(0)})
	for _, n := range []int{math.MinInt, -1 << 32, -2, -1, 0, 1, 4, mostItems, mostItems + 1, 1 << 32, math.MaxInt} {
		for _, dim := range []int{math.MinInt, -1 << 32, -1, 0, 1, 2, mostDim, mostDim + 1, 1 << 32, 1<<32 + 1, math.MaxInt} {
			for _, nodes := range lists {
				hold(t, nodes, n, dim)
				outside := n < 0 || n > mostItems || dim < 1 || dim > mostDim
				if (Check(nodes, n, dim) == api.ErrRange) != outside {
					t.Fatal(nodes, n, dim)
				}
			}
		}
	}
}

func TestCheckOfAsManyAsMayBe(t *testing.T) {
	all := upTo(mostItems + 1)
	must(t, api.OK, []api.Node{leaf(all[:mostItems]...)}, mostItems, 1)
	if e := Check([]api.Node{leaf(all...)}, mostItems+1, 1); e != api.ErrRange {
		t.Error(e)
	}
	if e := Check([]api.Node{leaf(all[:mostItems-1]...)}, mostItems, 1); e != api.ErrNode {
		t.Error(e)
	}
	if e := Check([]api.Node{leaf(all...)}, mostItems, 1); e != api.ErrNode {
		t.Error(e)
	}
}

func TestCheckOfNoNodes(t *testing.T) {
	for _, n := range []int{0, 1, 5, mostItems} {
		must(t, api.ErrNode, nil, n, 1)
		must(t, api.ErrNode, []api.Node{}, n, mostDim)
	}
}

func TestCheckOfFewNodes(t *testing.T) {
	must(t, api.OK, []api.Node{leaf()}, 0, 1)
	must(t, api.OK, []api.Node{leaf(1, 0)}, 2, 1)
	must(t, api.ErrNode, []api.Node{cut(1, 2)}, 0, 1)
	must(t, api.ErrNode, []api.Node{{}}, 0, 1)
	for _, second := range []api.Node{leaf(), leaf(0), cut(2, 3), cut(1, 1)} {
		for _, first := range []api.Node{leaf(), leaf(0), cut(1, 2), cut(1, 1), cut(0, 0)} {
			must(t, api.ErrNode, []api.Node{first, second}, 1, 1)
			must(t, api.ErrNode, []api.Node{first, second}, 0, 1)
		}
	}
	must(t, api.OK, []api.Node{cut(1, 2), leaf(1), leaf(0)}, 2, 1)
	must(t, api.OK, []api.Node{cut(1, 2), leaf(), leaf()}, 0, 1)
	must(t, api.ErrNode, []api.Node{cut(2, 1), leaf(1), leaf(0)}, 2, 1)
	must(t, api.ErrNode, []api.Node{cut(1, 1), leaf(1), leaf(0)}, 2, 1)
	must(t, api.OK, small(), 4, 1)
}

// All lists of up to four nodes, and of five whose left children stand where they must.
func TestCheckOfAllShortLists(t *testing.T) {
	leaves := []api.Node{leaf(), leaf(0), leaf(1), leaf(1, 0)}
	trees := 0
	for length := range 5 {
		each(length, func(int) []api.Node {
			kinds := slices.Clone(leaves)
			for left := range 4 {
				for right := range 4 {
					kinds = append(kinds, cut(left, right+1))
				}
			}
			return kinds
		}, func(nodes []api.Node) {
			for n := range 3 {
				hold(t, nodes, n, 1)
			}
			if Check(nodes, 2, 1) == api.OK {
				trees++
			}
		})
	}
	each(5, func(place int) []api.Node {
		kinds := slices.Clone(leaves)
		for right := -1; right < 7; right++ {
			kinds = append(kinds, cut(place+1, right))
		}
		return kinds
	}, func(nodes []api.Node) {
		hold(t, nodes, 2, 1)
		if Check(nodes, 2, 1) == api.OK {
			trees++
		}
	})
	// One leaf has both; or of two leaves each one, or one both (4 ways); or of three leaves (9 ways) by two forms.
	if trees != 1+4+2*9 {
		t.Error(trees)
	}
}

// each tells all lists of so many nodes, each of the kinds of its place, one in a list that is written over again and again.
func each(length int, kindsAt func(place int) []api.Node, tell func([]api.Node)) {
	list := make([]api.Node, length)
	var from func(place int)
	from = func(place int) {
		if place == length {
			tell(list)
			return
		}
		for _, node := range kindsAt(place) {
			list[place] = node
			from(place + 1)
		}
	}
	from(0)
}

func TestCheckOfDrawnTrees(t *testing.T) {
	r := rand.New(rand.NewSource(1))
	for range 2000 {
		n := r.Intn(30)
		nodes, _, _ := drawnTree(r, n, 1+r.Intn(20))
		must(t, api.OK, nodes, n, 1)
		must(t, api.ErrNode, nodes, n+1, 1)
		if n > 0 {
			must(t, api.ErrNode, nodes, n-1, 1)
		}
		must(t, api.ErrNode, append(slices.Clone(nodes), leaf()), n, 1)
		must(t, api.ErrNode, append(slices.Clone(nodes), cut(len(nodes)+1, len(nodes)+2)), n, 1)
		must(t, api.ErrNode, append(slices.Clone(nodes), nodes...), n, 1)
		must(t, api.ErrNode, append([]api.Node{leaf()}, nodes...), n, 1)
		for end := range nodes {
			must(t, api.ErrNode, nodes[:end], n, 1)
		}
	}
}

// What of a leaf isn't 0, though it must be.
func TestCheckOfLeavesWithMoreThanIds(t *testing.T) {
	for _, spoil := range []func(*api.Node){
		func(n *api.Node) { n.Plane.Normal = []int32{0} },
		func(n *api.Node) { n.Plane.Normal = []int32{3} },
		func(n *api.Node) { n.Plane.Normal = []int32{3, 0} },
		func(n *api.Node) { n.Plane.Offset = 1 },
		func(n *api.Node) { n.Plane.Offset = -1 },
		func(n *api.Node) { n.Plane.Offset = math.MinInt64 },
		func(n *api.Node) { n.Plane.Offset = 1 << 32 },
		func(n *api.Node) { n.Left = 1 },
		func(n *api.Node) { n.Left = -1 },
		func(n *api.Node) { n.Left = math.MaxInt },
		func(n *api.Node) { n.Right = 1 },
		func(n *api.Node) { n.Right = -1 },
		func(n *api.Node) { n.Right = 5 },
		func(n *api.Node) { n.Right = math.MinInt },
	} {
		for _, place := range []int{2, 3, 4} {
			nodes := small()
			spoil(&nodes[place])
			must(t, api.ErrNode, nodes, 4, 1)
			nodes[place].Plane, nodes[place].Left, nodes[place].Right = api.Plane{}, 0, 0
			must(t, api.OK, nodes, 4, 1)
			nodes[place].Plane.Normal = []int32{}
			must(t, api.OK, nodes, 4, 1)
		}
		one := []api.Node{leaf(0)}
		spoil(&one[0])
		must(t, api.ErrNode, one, 1, 1)
	}
}

func TestCheckOfSplitsWithIds(t *testing.T) {
	for _, place := range []int{0, 1} {
		for _, ids := range [][]int{{0}, {4}, {-1}, {0, 1, 2, 3}, {math.MaxInt}} {
			nodes := small()
			nodes[place].Ids = ids
			for n := range 7 {
				must(t, api.ErrNode, nodes, n, 1)
			}
			nodes[place].Ids = []int{}
			must(t, api.OK, nodes, 4, 1)
		}
	}
	// An id that only a split has isn't in a leaf.
	must(t, api.ErrNode, []api.Node{{Ids: []int{0}, Plane: plane.Flat(1), Left: 1, Right: 2}, leaf(1), leaf(2)}, 3, 1)
}

func TestCheckOfPlanes(t *testing.T) {
	for _, x := range []struct {
		p    api.Plane
		dim  int
		want api.Errno
	}{
		{api.Plane{Normal: []int32{0, 0}}, 2, api.OK},
		{api.Plane{Normal: []int32{mostNormal, -mostNormal}, Offset: mostOffset}, 2, api.OK},
		{api.Plane{Normal: []int32{mostNormal, -mostNormal}, Offset: -mostOffset}, 2, api.OK},
		{api.Plane{}, 1, api.ErrNode},
		{api.Plane{Offset: 1}, 1, api.ErrNode},
		{api.Plane{Normal: []int32{1}}, 2, api.ErrNode},
		{api.Plane{Normal: []int32{1, 2}}, 1, api.ErrNode},
		{api.Plane{Normal: []int32{1, 2, 3}}, 2, api.ErrNode},
		{api.Plane{Normal: []int32{mostNormal + 1, 0}}, 2, api.ErrNode},
		{api.Plane{Normal: []int32{0, -mostNormal - 1}}, 2, api.ErrNode},
		{api.Plane{Normal: []int32{math.MinInt32, 0}}, 2, api.ErrNode},
		{api.Plane{Normal: []int32{0, math.MaxInt32}}, 2, api.ErrNode},
		{api.Plane{Normal: []int32{0, 0}, Offset: mostOffset + 1}, 2, api.ErrNode},
		{api.Plane{Normal: []int32{0, 0}, Offset: -mostOffset - 1}, 2, api.ErrNode},
		{api.Plane{Normal: []int32{0, 0}, Offset: math.MinInt64}, 2, api.ErrNode},
		{api.Plane{Normal: make([]int32, mostDim)}, mostDim, api.OK},
		{api.Plane{Normal: make([]int32, mostDim-1)}, mostDim, api.ErrNode},
		{api.Plane{Normal: make([]int32, mostDim+1)}, mostDim, api.ErrNode},
	} {
		for _, place := range []int{0, 1} {
			nodes := small()
			nodes[0].Plane, nodes[1].Plane = plane.Flat(x.dim), plane.Flat(x.dim)
			must(t, api.OK, nodes, 4, x.dim)
			nodes[place].Plane = x.p
			must(t, x.want, nodes, 4, x.dim)
		}
	}
}

// Left or Right of one split is another number.
func TestCheckOfChildrenThatStandElsewhere(t *testing.T) {
	r := rand.New(rand.NewSource(2))
	for range 200 {
		nodes, _, _ := drawnTree(r, 9, 2+r.Intn(12))
		for place, node := range nodes {
			if node.Leaf {
				continue
			}
			for _, other := range []int{math.MinInt, -1 << 32, -len(nodes), -place, -1, 0, place - 1, place, place + 1, place + 2, node.Right - 1, node.Right, node.Right + 1, len(nodes) - 1, len(nodes), len(nodes) + 1, 1 << 32, 1<<32 + node.Left, 1<<32 + node.Right, math.MaxInt} {
				holdElsewhere(t, nodes, place, other, node.Right)
				holdElsewhere(t, nodes, place, node.Left, other)
				holdElsewhere(t, nodes, place, node.Right, other)
			}
		}
	}
}

// holdElsewhere holds a tree with other children of one split to be no tree, but where they are the same.
func holdElsewhere(t *testing.T, nodes []api.Node, place, left, right int) {
	t.Helper()
	was := nodes[place]
	want := api.ErrNode
	if was.Left == left && was.Right == right {
		want = api.OK
	}
	nodes[place].Left, nodes[place].Right = left, right
	must(t, want, nodes, 9, 1)
	nodes[place] = was
}

// All are in order but the kind of one node.
func TestCheckOfKindsThatAreTurned(t *testing.T) {
	for place := range small() {
		nodes := small()
		nodes[place].Leaf = !nodes[place].Leaf
		must(t, api.ErrNode, nodes, 4, 1)
	}
}

func TestCheckOfDepths(t *testing.T) {
	for depth := range mostDepth + 4 {
		for i, f := range chains(depth) {
			nodes, depths := built(f, singles(depth+1))
			want := api.OK
			if depth > mostDepth {
				want = api.ErrNode
			}
			must(t, want, nodes, depth+1, 1)
			if i == 0 && slices.Max(depths) != depth {
				t.Error(depth, depths)
			}
		}
	}
	// A deep one somewhere in the middle.
	for depth, want := range map[int]api.Errno{mostDepth - 2: api.OK, mostDepth - 1: api.ErrNode} {
		for _, f := range chains(depth) {
			nodes, _ := built(over(over(nil, nil), over(f, nil)), singles(depth+4))
			must(t, want, nodes, depth+4, 1)
		}
	}
	nodes, _ := built(chain(20000, func(int) bool { return false }), singles(20001))
	must(t, api.ErrNode, nodes, 20001, 1)
}

func TestCheckOfIds(t *testing.T) {
	for _, x := range []struct {
		first, second, third []int
		n                    int
		want                 api.Errno
	}{
		{[]int{0}, []int{1}, []int{2}, 3, api.OK},
		{[]int{2}, []int{0}, []int{1}, 3, api.OK},
		{[]int{2, 1, 0}, nil, nil, 3, api.OK},
		{nil, nil, []int{1, 2, 0}, 3, api.OK},
		{nil, []int{}, nil, 0, api.OK},
		{[]int{0}, []int{1}, []int{2}, 2, api.ErrNode},
		{[]int{0}, []int{1}, []int{2}, 4, api.ErrNode},
		{[]int{0}, []int{1}, nil, 3, api.ErrNode},
		{[]int{1}, nil, []int{2}, 3, api.ErrNode},
		{[]int{0, 0}, []int{1}, []int{2}, 3, api.ErrNode},
		{[]int{0, 1, 0}, nil, []int{2}, 3, api.ErrNode},
		{[]int{0}, []int{1}, []int{2, 0}, 3, api.ErrNode},
		{[]int{0}, []int{0}, []int{1}, 3, api.ErrNode},
		{[]int{0}, []int{1}, []int{1}, 3, api.ErrNode},
		{[]int{0, 1, 2}, []int{0, 1, 2}, []int{0, 1, 2}, 3, api.ErrNode},
		{[]int{0}, []int{1}, []int{2, -1}, 3, api.ErrNode},
		{[]int{0}, []int{1}, []int{-1}, 3, api.ErrNode},
		{[]int{0}, []int{1}, []int{-2}, 3, api.ErrNode},
		{[]int{0}, []int{1}, []int{2, 3}, 3, api.ErrNode},
		{[]int{0}, []int{1}, []int{3}, 3, api.ErrNode},
		{[]int{0}, []int{1}, []int{2, math.MaxInt}, 3, api.ErrNode},
		{[]int{0}, []int{1}, []int{2, math.MinInt}, 3, api.ErrNode},
		{[]int{0}, []int{1}, []int{2, 1<<32 + 3}, 3, api.ErrNode},
		{[]int{0}, nil, nil, 0, api.ErrNode},
		{[]int{-1}, nil, nil, 0, api.ErrNode},
		{nil, nil, nil, 1, api.ErrNode},
	} {
		nodes, _ := built(over(over(nil, nil), nil), [][]int{x.first, x.second, x.third})
		must(t, x.want, nodes, x.n, 1)
		must(t, x.want, []api.Node{leaf(slices.Concat(x.first, x.second, x.third)...)}, x.n, 1)
	}
}

func TestCheckOfOneIdThatIsAnother(t *testing.T) {
	r := rand.New(rand.NewSource(3))
	for range 400 {
		n := 1 + r.Intn(200)
		nodes, _, _ := drawnTree(r, n, 1+r.Intn(9))
		for place, node := range nodes {
			for i, was := range node.Ids {
				other := r.Intn(n+2) - 1
				nodes[place].Ids[i] = other
				want := api.ErrNode
				if other == was {
					want = api.OK
				}
				if got := Check(nodes, n, 1); got != want {
					t.Fatal(nodes, n, got)
				}
				nodes[place].Ids[i] = was
			}
		}
	}
}

func TestCheckOfListsThatAreNoTrees(t *testing.T) {
	for _, nodes := range noTrees() {
		for n := range 6 {
			must(t, api.ErrNode, nodes, n, 1)
		}
	}
}

// garbage is a list of nodes of which little is in order.
func garbage(r *rand.Rand) []api.Node {
	ids := []int{math.MinInt, -1, 0, 1, 2, 3, math.MaxInt}
	ways := []int{math.MinInt, -1, 0, 1, 2, 3, 4, 5, 6, 7, 1 << 40, math.MaxInt}
	nodes := make([]api.Node, r.Intn(9))
	for i := range nodes {
		nodes[i] = api.Node{Leaf: r.Intn(2) == 0, Left: ways[r.Intn(len(ways))], Right: ways[r.Intn(len(ways))]}
		for range r.Intn(3) {
			nodes[i].Ids = append(nodes[i].Ids, ids[r.Intn(len(ids))])
		}
		for range r.Intn(3) {
			nodes[i].Plane.Normal = append(nodes[i].Plane.Normal, int32(r.Uint32()))
		}
		nodes[i].Plane.Offset = int64(r.Uint64()) >> r.Intn(64)
	}
	return nodes
}

func TestOfGarbage(t *testing.T) {
	r := rand.New(rand.NewSource(4))
	for range 20000 {
		nodes := garbage(r)
		hold(t, nodes, r.Intn(4), 1+r.Intn(2))
		holdEnds(t, nodes)
	}
}

// P14.2: Walk, Leaves, Depth, Count

func TestToldOfFewNodes(t *testing.T) {
	holdTold(t, []api.Node{leaf(0)}, []int{0}, [][]int{{0}})
	holdTold(t, []api.Node{leaf()}, []int{0}, [][]int{{}})
	holdTold(t, []api.Node{leaf(5, 3, 4)}, []int{0}, [][]int{{5, 3, 4}})
	holdTold(t, []api.Node{cut(1, 2), leaf(1), leaf(0)}, []int{0, 1, 1}, [][]int{{1}, {0}})
	holdTold(t, []api.Node{cut(1, 2), leaf(), leaf()}, []int{0, 1, 1}, [][]int{{}, {}})
	holdTold(t, small(), []int{0, 1, 2, 2, 1}, [][]int{{0, 3}, {1}, {2}})
}

func TestToldOfDrawnTrees(t *testing.T) {
	r := rand.New(rand.NewSource(5))
	for range 2000 {
		nodes, depths, lists := drawnTree(r, r.Intn(60), 1+r.Intn(40))
		holdTold(t, nodes, depths, lists)
	}
}

func TestToldOfDeepTrees(t *testing.T) {
	for _, depth := range []int{1, 2, 3, 63, 64} {
		for _, f := range chains(depth) {
			nodes, depths := built(f, singles(ends(f)))
			holdTold(t, nodes, depths, singles(ends(f)))
			if Depth(nodes) != depth {
				t.Error(depth, Depth(nodes))
			}
		}
	}
}

func TestToldOfManyNodes(t *testing.T) {
	var f *form
	for range 15 {
		f = over(f, f)
	}
	nodes, depths := built(f, singles(1<<15))
	must(t, api.OK, nodes, 1<<15, 1)
	holdTold(t, nodes, depths, singles(1<<15))
	if n, l := Count(nodes); n != 1<<16-1 || l != 1<<15 || Depth(nodes) != 15 {
		t.Error(n, l)
	}
}

func TestWalkIsBrokenOff(t *testing.T) {
	nodes, want := built(over(over(nil, over(nil, nil)), over(nil, nil)), singles(5))
	for end := range nodes {
		walk := Walk(nodes)
		for range 3 {
			told := 0
			for place, depth := range walk {
				if place != told || depth != want[place] {
					t.Error(place, depth)
				}
				if told == end {
					break
				}
				told++
			}
			if told != end {
				t.Error(told, end)
			}
		}
		if places, depths := walked(walk); !slices.Equal(places, upTo(len(nodes))) || !slices.Equal(depths, want) {
			t.Error(places, depths)
		}
	}
}

func TestLeavesAreBrokenOff(t *testing.T) {
	nodes, _ := built(over(over(nil, over(nil, nil)), over(nil, nil)), singles(5))
	for end := range 5 {
		leaves := Leaves(nodes)
		for range 3 {
			told := 0
			for ids := range leaves {
				if !slices.Equal(ids, []int{told}) {
					t.Error(ids)
				}
				if told == end {
					break
				}
				told++
			}
			if told != end {
				t.Error(told, end)
			}
		}
		if told := slices.Collect(leaves); !slices.EqualFunc(told, singles(5), slices.Equal) {
			t.Error(told)
		}
	}
}

// Two that range over the same walk or leaves, one within the other, don't disturb each other.
func TestRangesWithinEachOther(t *testing.T) {
	nodes, want := built(over(over(nil, over(nil, nil)), over(nil, nil)), singles(5))
	walk, leaves := Walk(nodes), Leaves(nodes)
	place, told := 0, 0
	for outer, depth := range walk {
		if outer != place || depth != want[outer] {
			t.Error(outer, depth)
		}
		place++
		if places, depths := walked(walk); !slices.Equal(places, upTo(len(nodes))) || !slices.Equal(depths, want) {
			t.Error(places, depths)
		}
	}
	for ids := range leaves {
		if all := slices.Collect(leaves); !slices.Equal(ids, []int{told}) || !slices.EqualFunc(all, singles(5), slices.Equal) {
			t.Error(ids, all)
		}
		told++
	}
	if place != len(nodes) || told != 5 {
		t.Error(place, told)
	}
}

// holdEnds asks all that is told of a list that may be none of a tree's: it ends, tells no place twice, and no more leaves than there are.
func holdEnds(t *testing.T, nodes []api.Node) {
	t.Helper()
	before := copied(nodes)
	places, _ := walked(Walk(nodes))
	leaves := slices.Collect(Leaves(nodes))
	Depth(nodes)
	Count(nodes)
	if len(places) > len(nodes) || len(leaves) > len(nodes) {
		t.Fatal(nodes, places, leaves)
	}
	for range Walk(nodes) {
		break
	}
	for range Leaves(nodes) {
		break
	}
	if !slices.EqualFunc(nodes, before, alikeBoth) {
		t.Fatal("what was handed in is another one", nodes, before)
	}
}

func TestToldOfListsThatAreNoTrees(t *testing.T) {
	for _, nodes := range noTrees() {
		holdEnds(t, nodes)
	}
	if n, l := Count(nil); n != 0 || l != 0 || Depth(nil) != 0 {
		t.Error(n, l)
	}
}

// P14.3: Same

func TestSameOfNone(t *testing.T) {
	if !Same(nil, nil) || !Same(nil, []api.Node{}) || !Same([]api.Node{}, nil) || Same(nil, []api.Node{{}}) || Same([]api.Node{leaf()}, nil) {
		t.Error("none")
	}
}

// Of each two lists that differ in one field alone, or not at all.
func TestSameOfOneNode(t *testing.T) {
	full := func() api.Node {
		return api.Node{Leaf: true, Ids: []int{4, 5}, Plane: api.Plane{Normal: []int32{6, 7}, Offset: 8}, Left: 9, Right: 10}
	}
	turns := []func(*api.Node){
		func(*api.Node) {},
		func(n *api.Node) { n.Leaf = false },
		func(n *api.Node) { n.Ids = nil },
		func(n *api.Node) { n.Ids = []int{4} },
		func(n *api.Node) { n.Ids = []int{4, 5, 0} },
		func(n *api.Node) { n.Ids = []int{5, 4} },
		func(n *api.Node) { n.Ids = []int{4, 5 + 1<<32} },
		func(n *api.Node) { n.Ids = []int{-4, 5} },
		func(n *api.Node) { n.Plane.Normal = nil },
		func(n *api.Node) { n.Plane.Normal = []int32{6} },
		func(n *api.Node) { n.Plane.Normal = []int32{6, 7, 0} },
		func(n *api.Node) { n.Plane.Normal = []int32{7, 6} },
		func(n *api.Node) { n.Plane.Normal = []int32{6, -7} },
		func(n *api.Node) { n.Plane.Offset = 0 },
		func(n *api.Node) { n.Plane.Offset = 8 + 1<<32 },
		func(n *api.Node) { n.Plane.Offset = -8 },
		func(n *api.Node) { n.Left = 0 },
		func(n *api.Node) { n.Left = 10 },
		func(n *api.Node) { n.Right = 0 },
		func(n *api.Node) { n.Right = 9 },
		func(n *api.Node) { n.Left, n.Right = 10, 9 },
	}
	for i, turn := range turns {
		for j, other := range turns {
			a, b := full(), full()
			turn(&a)
			other(&b)
			if got := Same([]api.Node{a}, []api.Node{b}); got != (i == j) {
				t.Error(i, j, got)
			}
			around := []api.Node{leaf(1), {}, cut(5, 6)}
			for place := range 4 {
				if got := Same(slices.Insert(slices.Clone(around), place, a), slices.Insert(slices.Clone(around), place, b)); got != (i == j) {
					t.Error(i, j, place, got)
				}
			}
		}
	}
}

func TestSameOfEmptyListsBesideNone(t *testing.T) {
	plain := []api.Node{{Leaf: true}, {Left: 1}}
	empty := []api.Node{{Leaf: true, Ids: []int{}, Plane: api.Plane{Normal: []int32{}}}, {Ids: make([]int, 0, 4), Plane: api.Plane{Normal: make([]int32, 0, 4)}, Left: 1}}
	if !Same(plain, empty) || !Same(empty, plain) || !Same(empty, empty) {
		t.Error("empty")
	}
}

func TestSameOfUnlikeLengths(t *testing.T) {
	for end := range len(small()) {
		for other := range len(small()) {
			if Same(small()[:end], small()[:other]) != (end == other) {
				t.Error(end, other)
			}
		}
	}
	if Same(small(), append(small(), api.Node{})) || Same(append(small(), leaf()), small()) {
		t.Error("one more")
	}
}

func TestSameOfLists(t *testing.T) {
	r := rand.New(rand.NewSource(6))
	for range 3000 {
		a, b := garbage(r), garbage(r)
		if !Same(a, copied(a)) || Same(a, b) != slices.EqualFunc(a, b, alikeBoth) || Same(a, b) != Same(b, a) {
			t.Fatal(a, b)
		}
	}
	for range 300 {
		nodes, _, _ := drawnTree(r, r.Intn(20), 1+r.Intn(20))
		if !Same(nodes, copied(nodes)) || Same(nodes, nodes[1:]) {
			t.Fatal(nodes)
		}
		for place := range nodes {
			other := copied(nodes)
			other[place].Right++
			if Same(nodes, other) || Same(other, nodes) {
				t.Fatal(nodes, place)
			}
		}
	}
}

// P13.2: each tree that layer 13 grows is one by these words.

func TestOfTreesThatAreGrown(t *testing.T) {
	r := rand.New(rand.NewSource(7))
	for range 300 {
		dim, n := []int{1, 2, 3, 1024}[r.Intn(4)], 1+r.Intn(60)
		x, _ := data.New(dim)
		for range n {
			v := make([]int32, dim)
			for place := range v {
				v[place] = int32(r.Intn(9)-4) << 18
			}
			x.Add(v)
		}
		for _, p := range []api.Params{{Trees: 1, Leaf: 1, Depth: 64}, {Trees: 1, Leaf: 1 + r.Intn(9), Depth: r.Intn(65)}, {Trees: 1, Leaf: 1}} {
			holdGrown(t, x, p, rng.Mix(r.Uint64()))
		}
	}
}

// holdGrown holds a tree of items to be one, and no deeper than told.
func holdGrown(t *testing.T, x *data.Items, p api.Params, s rng.Source) {
	t.Helper()
	nodes, e := grow.Tree(x, p, s)
	if e != api.OK {
		t.Fatal(e)
	}
	if e := Check(nodes, x.Len(), x.Dim()); e != api.OK || Depth(nodes) > p.Depth {
		t.Fatal(nodes, p, e)
	}
	for _, dim := range []int{1, 2, 3, 1024} {
		// A leaf alone is of any dimension.
		if dim != x.Dim() && (Check(nodes, x.Len(), dim) == api.OK) != (len(nodes) == 1) {
			t.Fatal(nodes, dim)
		}
	}
	n, leaves := Count(nodes)
	if n != 2*leaves-1 || n > 2*x.Len()-1 {
		t.Fatal(n, leaves)
	}
	if all := slices.Concat(slices.Collect(Leaves(nodes))...); len(all) != x.Len() {
		t.Fatal(all)
	}
}

func TestOfTreesThatAreGrownOfItemsThatAreAllTheSame(t *testing.T) {
	for _, n := range []int{1, 2, 3, 50, 3000} {
		x, _ := data.New(2)
		for range n {
			x.Add([]int32{7, 7})
		}
		for _, most := range []int{1, 2, 1024} {
			holdGrown(t, x, api.Params{Trees: 1, Leaf: most, Depth: 64}, rng.Script())
			holdGrown(t, x, api.Params{Trees: 1, Leaf: most, Depth: 5}, rng.Mix(1))
		}
	}
}

// Rule 3: what is handed in is neither changed nor kept, and answers are new memory

// spoil writes into a list, and into all the room behind it.
func spoil(l []int) {
	l = l[:cap(l)]
	for i := range l {
		l[i] = -77
	}
	_ = append(l, -78)
}

func TestLeavesAreNewMemory(t *testing.T) {
	r := rand.New(rand.NewSource(8))
	for range 300 {
		nodes, _, lists := drawnTree(r, r.Intn(60), 1+r.Intn(20))
		before := copied(nodes)
		leaves, other := Leaves(nodes), Leaves(nodes)
		first := slices.Collect(leaves)
		for i, ids := range first {
			spoil(ids)
			for j := i + 1; j < len(first); j++ {
				if !slices.Equal(first[j], lists[j]) {
					t.Fatal("two leaves share memory", i, j)
				}
			}
		}
		for ids := range leaves {
			spoil(ids)
		}
		for _, told := range [][][]int{slices.Collect(leaves), slices.Collect(other), slices.Collect(Leaves(nodes))} {
			if !slices.EqualFunc(told, lists, slices.Equal) {
				t.Fatal(told, lists)
			}
		}
		if !slices.EqualFunc(nodes, before, alikeBoth) {
			t.Fatal("the tree is another one", nodes)
		}
	}
}

// What was told of a list ahead of its change is told on.
func TestRangesKeepNothingOfTheList(t *testing.T) {
	nodes := small()
	walk, leaves := Walk(nodes), Leaves(nodes)
	n := 0
	for range walk {
		nodes[n], n = cut(-1, -1), n+1
	}
	if n != len(nodes) {
		t.Error(n)
	}
	nodes[2], nodes[3], nodes[4] = leaf(8), leaf(8), cut(0, 0)
	if places, depths := walked(walk); !slices.Equal(places, upTo(5)) || !slices.Equal(depths, []int{0, 1, 2, 2, 1}) {
		t.Error(places, depths)
	}
	if told := slices.Collect(leaves); !slices.EqualFunc(told, [][]int{{0, 3}, {1}, {2}}, slices.Equal) {
		t.Error(told)
	}
	nodes = small()
	leaves = Leaves(nodes)
	for i := range nodes {
		spoil(nodes[i].Ids)
	}
	if told := slices.Collect(leaves); !slices.EqualFunc(told, [][]int{{0, 3}, {1}, {2}}, slices.Equal) {
		t.Error(told)
	}
}

func TestNoCallChangesWhatIsHandedIn(t *testing.T) {
	lists := append(noTrees(), small())
	for _, nodes := range lists {
		room := slices.Grow(slices.Clone(nodes), 2)
		for i := range room {
			room[i].Ids = append(slices.Clone(room[i].Ids), 5)[:len(room[i].Ids)]
			room[i].Plane.Normal = append(slices.Clone(room[i].Plane.Normal), 6)[:len(room[i].Plane.Normal)]
		}
		spare := room[:len(room)+1]
		spare[len(room)] = leaf(9)
		holdEnds(t, room)
		Check(room, 4, 1)
		Same(room, room)
		if !slices.EqualFunc(room, nodes, alikeBoth) || !alikeBoth(spare[len(room)], leaf(9)) {
			t.Fatal(room, nodes)
		}
		for i := range room {
			n, m := len(room[i].Ids), len(room[i].Plane.Normal)
			if room[i].Ids[:n+1][n] != 5 || room[i].Plane.Normal[:m+1][m] != 6 {
				t.Fatal("spare room is written into")
			}
		}
	}
}

// Rule 4: who asks side by side is answered as one who asks alone.
func TestAskedSideBySide(t *testing.T) {
	r := rand.New(rand.NewSource(9))
	nodes, want, lists := drawnTree(r, 90, 40)
	walk, leaves := Walk(nodes), Leaves(nodes)
	wrongs := make([]int, 8)
	var ended sync.WaitGroup
	for w := range wrongs {
		ended.Go(func() {
			for range 50 {
				_, depths := walked(walk)
				n, l := Count(nodes)
				if !slices.Equal(depths, want) || !slices.EqualFunc(slices.Collect(leaves), lists, slices.Equal) || n != 79 || l != 40 {
					wrongs[w]++
				}
				if Check(nodes, 90, 1) != api.OK || !Same(nodes, nodes) || Depth(nodes) != slices.Max(want) {
					wrongs[w]++
				}
				for ids := range leaves {
					spoil(ids)
				}
			}
		})
	}
	ended.Wait()
	if !slices.Equal(wrongs, make([]int, 8)) {
		t.Error(wrongs)
	}
}
