package record

import (
	"math"
	"math/rand"
	"slices"
	"strings"
	"sync"
	"testing"

	"shelterbelt/api"
	"shelterbelt/data"
	"shelterbelt/grow"
	"shelterbelt/plane"
	"shelterbelt/rng"
	"shelterbelt/shape"
)

const (
	mostDim    = 1024
	mostCount  = 1048576
	mostPlace  = 268435456
	mostRight  = 1073741824
	mostNormal = 2097152 // what a Normal's coordinate may be, either way
	mostOffset = 9007199254740992
)

// The chapter's words, anew.

// sized is how many bytes a record has.
func sized(dim int) int {
	if dim < 1 || dim > mostDim {
		return 0
	}
	return 1 + 4 + 8 + 4*dim
}

// within: is a number from one to another?
func within(n, from, to int64) bool { return from <= n && n <= to }

// right: may a row be, of a dimension that may be?
func right(r Row, dim int) bool {
	p := r.Plane
	if r.Leaf {
		return within(int64(r.Count), 0, mostCount) && within(int64(r.Place), 0, mostPlace) && len(p.Normal) == 0 && p.Offset == 0 && r.Right == 0
	}
	if r.Count != 0 || r.Place != 0 || len(p.Normal) != dim {
		return false
	}
	for _, c := range p.Normal {
		if !within(int64(c), -mostNormal, mostNormal) {
			return false
		}
	}
	return within(p.Offset, -mostOffset, mostOffset) && within(int64(r.Right), 0, mostRight)
}

// lowFirst is a number in so many bytes.
func lowFirst(n int64, size int) string {
	var b strings.Builder
	for range size {
		b.WriteByte(byte(uint64(n) % 256))
		n >>= 8
	}
	return b.String()
}

// lowFirstOf is the number that bytes tell, unsigned.
func lowFirstOf(s string) uint64 {
	var n uint64
	for i := len(s) - 1; i >= 0; i-- {
		n = n*256 + uint64(s[i])
	}
	return n
}

// written is the record of a row that may be.
func written(r Row, dim int) string {
	if r.Leaf {
		return "\x01" + lowFirst(int64(r.Count), 4) + lowFirst(int64(r.Place), 8) + strings.Repeat("\x00", 4*dim)
	}
	s := "\x02" + lowFirst(int64(r.Right), 4) + lowFirst(r.Plane.Offset, 8)
	for _, c := range r.Plane.Normal {
		s += lowFirst(int64(c), 4)
	}
	return s
}

// put is what Put answers, by the words.
func put(r Row, dim int) (string, api.Errno) {
	switch {
	case dim < 1 || dim > mostDim:
		return "", api.ErrRange
	case !right(r, dim):
		return "", api.ErrNode
	}
	return written(r, dim), api.OK
}

// read is the row of which a text of the right length is the record, and whether there is one.
func read(s string) (Row, bool) {
	low, high, rest := lowFirstOf(s[1:5]), lowFirstOf(s[5:13]), s[13:]
	switch s[0] {
	case 1:
		return Row{Leaf: true, Count: int(low), Place: int(high)}, low <= mostCount && high <= mostPlace && strings.Trim(rest, "\x00") == ""
	case 2:
		r := Row{Plane: api.Plane{Offset: int64(high)}, Right: int(low)}
		for ; rest != ""; rest = rest[4:] {
			r.Plane.Normal = append(r.Plane.Normal, int32(uint32(lowFirstOf(rest[:4]))))
		}
		return r, right(r, len(r.Plane.Normal))
	}
	return Row{}, false
}

// get is what Get answers, by the words.
func get(s string, dim int) (Row, api.Errno) {
	switch {
	case dim < 1 || dim > mostDim:
		return Row{}, api.ErrRange
	case len(s) < sized(dim):
		return Row{}, api.ErrShort
	case len(s) > sized(dim):
		return Row{}, api.ErrForm
	}
	if r, ok := read(s); ok {
		return r, api.OK
	}
	return Row{}, api.ErrForm
}

// alike: field by field, an empty list as a nil one?
func alike(a, b Row) bool {
	return a.Leaf == b.Leaf && a.Count == b.Count && a.Place == b.Place && alikePlanes(a.Plane, b.Plane) && a.Right == b.Right
}

func alikePlanes(a, b api.Plane) bool {
	return slices.Equal(a.Normal, b.Normal) && a.Offset == b.Offset
}

func alikeNodes(a, b api.Node) bool {
	return a.Leaf == b.Leaf && slices.Equal(a.Ids, b.Ids) && alikePlanes(a.Plane, b.Plane) && a.Left == b.Left && a.Right == b.Right
}

// What is handed in.

// leaf is the row of a leaf.
func leaf(count, place int) Row { return Row{Leaf: true, Count: count, Place: place} }

// cut is the row of a split.
func cut(right int, offset int64, normal ...int32) Row {
	return Row{Plane: api.Plane{Normal: normal, Offset: offset}, Right: right}
}

// dims are dimensions that may be; badDims such as may not be.
func dims() []int { return []int{1, 2, 3, 7, 1023, mostDim} }

func badDims() []int {
	return []int{math.MinInt, math.MinInt + 1, -1 << 32, -1<<32 + 1, -1024, -4, -3, -2, -1, 0, 1025, 1026, 2048, 1 << 20, 1 << 30, 1 << 31, 1 << 32, 1<<32 + 1, 1<<32 + 1024, 1 << 62, 1<<62 + 1, math.MaxInt - 1, math.MaxInt}
}

// oddInts are such as no Count, Place or Right may be.
func oddInts() []int {
	return []int{math.MinInt, math.MinInt + 1, -1 << 40, -1 << 32, -1<<32 + 1, -1 << 31, -2, -1, 1<<30 + 1, 1<<31 - 1, 1 << 31, 1<<32 - 1, 1 << 32, 1<<32 + 1, 1<<32 + 2, 1<<40 + 5, 1 << 62, math.MaxInt - 1, math.MaxInt}
}

// drawnRow is a row that may be, often at an edge.
func drawnRow(r *rand.Rand, dim int) Row {
	upTo := func(most int) int {
		switch r.Intn(4) {
		case 0:
			return 0
		case 1:
			return most
		}
		return r.Intn(most + 1)
	}
	if r.Intn(2) == 0 {
		return leaf(upTo(mostCount), upTo(mostPlace))
	}
	x := cut(upTo(mostRight), int64(upTo(2*mostOffset))-mostOffset)
	for range dim {
		x.Plane.Normal = append(x.Plane.Normal, int32(upTo(2*mostNormal)-mostNormal))
	}
	return x
}

// drawnOdd is a row that may seldom be.
func drawnOdd(r *rand.Rand, dim int) Row {
	x := drawnRow(r, dim)
	odd := oddInts()
	number := func() int {
		if r.Intn(2) == 0 {
			return r.Intn(3)
		}
		return odd[r.Intn(len(odd))]
	}
	for range 1 + r.Intn(2) {
		switch r.Intn(7) {
		case 0:
			x.Leaf = !x.Leaf
		case 1:
			x.Count = number()
		case 2:
			x.Place = number()
		case 3:
			x.Right = number()
		case 4:
			x.Plane.Offset = int64(r.Uint64()) >> r.Intn(64)
		case 5:
			x.Plane.Normal = append(slices.Clone(x.Plane.Normal), int32(r.Uint32())>>r.Intn(32))
		case 6:
			if l := len(x.Plane.Normal); l > 0 {
				x.Plane.Normal = slices.Clone(x.Plane.Normal)
				x.Plane.Normal[r.Intn(l)] = int32(r.Uint32()) >> r.Intn(12)
			}
		}
	}
	return x
}

// What is held against the words.

// holdPut holds Put of a row to the words; what is put is got as it was.
func holdPut(t *testing.T, r Row, dim int) api.Errno {
	t.Helper()
	before := r
	before.Plane.Normal = slices.Clone(r.Plane.Normal)
	s, e := Put(r, dim)
	if want, wantE := put(r, dim); s != want || e != wantE {
		t.Fatalf("Put of %v, %d: %q, %d, and not %q, %d", r, dim, s, e, want, wantE)
	}
	if !alike(r, before) {
		t.Fatal("what was handed in is another one", r, before)
	}
	if e == api.OK {
		if len(s) != Size(dim) {
			t.Fatal(r, dim, len(s))
		}
		if back, e := Get(s, dim); e != api.OK || !alike(back, r) {
			t.Fatal(r, back, e)
		}
	}
	return e
}

// holdGet holds Get of a text to the words; what is got is put as it was.
func holdGet(t *testing.T, s string, dim int) api.Errno {
	t.Helper()
	r, e := Get(s, dim)
	if want, wantE := get(s, dim); !alike(r, want) || e != wantE {
		t.Fatalf("Get of %q, %d: %v, %d, and not %v, %d", s, dim, r, e, want, wantE)
	}
	if e == api.OK {
		if back, e := Put(r, dim); e != api.OK || back != s {
			t.Fatalf("%q, %q, %d", s, back, e)
		}
	}
	return e
}

// mustPut and mustGet hold an answer, and the words too.
func mustPut(t *testing.T, want api.Errno, r Row, dim int) {
	t.Helper()
	if e := holdPut(t, r, dim); e != want {
		t.Errorf("Put of %v, %d: %d, and not %d", r, dim, e, want)
	}
}

func mustGet(t *testing.T, want api.Errno, s string, dim int) {
	t.Helper()
	if e := holdGet(t, s, dim); e != want {
		t.Errorf("Get of %q, %d: %d, and not %d", s, dim, e, want)
	}
}

// P15.1: Size

func TestSize(t *testing.T) {
	for dim := -5; dim < mostDim+6; dim++ {
		if Size(dim) != sized(dim) {
			t.Error(dim, Size(dim))
		}
	}
	for _, dim := range badDims() {
		if Size(dim) != 0 {
			t.Error(dim, Size(dim))
		}
	}
	if Size(1) != 17 || Size(2) != 21 || Size(1024) != 4109 {
		t.Error(Size(1), Size(2), Size(1024))
	}
}

// P15.1: Put

func TestExample(t *testing.T) {
	want := "\x01" + "\x02\x00\x00\x00" + "\x05\x00\x00\x00\x00\x00\x00\x00" + "\x00\x00\x00\x00"
	if s, e := Put(leaf(2, 5), 1); s != want || e != api.OK {
		t.Errorf("%q %d", s, e)
	}
	if r, e := Get(want, 1); !alike(r, leaf(2, 5)) || e != api.OK {
		t.Error(r, e)
	}
}

func TestPutByteByByte(t *testing.T) {
	for _, x := range []struct {
		r    Row
		dim  int
		want string
	}{
		{leaf(0, 0), 1, "\x01\x00\x00\x00\x00\x00\x00\x00\x00\x00\x00\x00\x00\x00\x00\x00\x00"},
		{leaf(mostCount, mostPlace), 1, "\x01\x00\x00\x10\x00\x00\x00\x00\x10\x00\x00\x00\x00\x00\x00\x00\x00"},
		{leaf(0x0A0B0C, 0x0D0E0F01), 1, "\x01\x0C\x0B\x0A\x00\x01\x0F\x0E\x0D\x00\x00\x00\x00\x00\x00\x00\x00"},
		{leaf(1, 2), 3, "\x01\x01\x00\x00\x00\x02\x00\x00\x00\x00\x00\x00\x00\x00\x00\x00\x00\x00\x00\x00\x00\x00\x00\x00\x00"},
		{cut(0, 0, 0), 1, "\x02\x00\x00\x00\x00\x00\x00\x00\x00\x00\x00\x00\x00\x00\x00\x00\x00"},
		{cut(mostRight, mostOffset, mostNormal), 1, "\x02\x00\x00\x00\x40\x00\x00\x00\x00\x00\x00\x20\x00\x00\x00\x20\x00"},
		{cut(mostRight, -mostOffset, -mostNormal), 1, "\x02\x00\x00\x00\x40\x00\x00\x00\x00\x00\x00\xE0\xFF\x00\x00\xE0\xFF"},
		{cut(0x0A0B0C0D, -2, 1, -1, 0x010203), 3, "\x02\x0D\x0C\x0B\x0A\xFE\xFF\xFF\xFF\xFF\xFF\xFF\xFF\x01\x00\x00\x00\xFF\xFF\xFF\xFF\x03\x02\x01\x00"},
		{cut(5, 0x0102030405060, 9), 1, "\x02\x05\x00\x00\x00\x60\x50\x40\x30\x20\x10\x00\x00\x09\x00\x00\x00"},
	} {
		if s, e := Put(x.r, x.dim); s != x.want || e != api.OK {
			t.Errorf("%v: %q %d", x.r, s, e)
		}
		mustPut(t, api.OK, x.r, x.dim)
		mustGet(t, api.OK, x.want, x.dim)
	}
}

func TestPutOfEachDimension(t *testing.T) {
	r := rand.New(rand.NewSource(1))
	for dim := 1; dim <= mostDim; dim++ {
		normal := make([]int32, dim)
		for i := range normal {
			normal[i] = int32(r.Intn(2*mostNormal+1) - mostNormal)
		}
		mustPut(t, api.OK, leaf(dim, 3*dim), dim)
		mustPut(t, api.OK, cut(dim, int64(-dim), normal...), dim)
		mustPut(t, api.ErrNode, cut(dim, int64(-dim), normal[1:]...), dim)
		mustPut(t, api.ErrNode, cut(dim, int64(-dim), append(normal, 0)...), dim)
	}
}

func TestPutOfDimensionsThatMayNotBe(t *testing.T) {
	rows := []Row{{}, leaf(0, 0), leaf(2, 5), leaf(-1, 0), leaf(0, -1), leaf(mostCount+1, 0), cut(0, 0), cut(0, 0, 0), cut(-1, 0, 0), cut(mostRight+1, 0, 0), cut(3, 4, make([]int32, 1025)...), cut(0, mostOffset+1, 1), cut(0, 0, math.MinInt32)}
	for _, dim := range badDims() {
		for _, r := range rows {
			mustPut(t, api.ErrRange, r, dim)
		}
	}
}

func TestPutOfLeaves(t *testing.T) {
	for _, x := range []struct {
		r    Row
		want api.Errno
	}{
		{leaf(0, 0), api.OK}, {leaf(1, 0), api.OK}, {leaf(-1, 0), api.ErrNode},
		{leaf(mostCount-1, 0), api.OK}, {leaf(mostCount, 0), api.OK}, {leaf(mostCount+1, 0), api.ErrNode},
		{leaf(0, 1), api.OK}, {leaf(0, -1), api.ErrNode},
		{leaf(0, mostPlace-1), api.OK}, {leaf(0, mostPlace), api.OK}, {leaf(0, mostPlace+1), api.ErrNode},
		{leaf(mostCount, mostPlace), api.OK}, {leaf(mostCount+1, mostPlace+1), api.ErrNode}, {leaf(-1, -1), api.ErrNode},
		{Row{Leaf: true, Plane: api.Plane{Normal: nil}}, api.OK},
		{Row{Leaf: true, Plane: api.Plane{Normal: []int32{}}}, api.OK},
		{Row{Leaf: true, Plane: api.Plane{Normal: make([]int32, 0, 4)}}, api.OK},
		{Row{Leaf: true, Plane: api.Plane{Normal: []int32{0}}}, api.ErrNode},
		{Row{Leaf: true, Plane: api.Plane{Normal: []int32{5}}}, api.ErrNode},
		{Row{Leaf: true, Plane: api.Plane{Normal: []int32{0, 0}}}, api.ErrNode},
		{Row{Leaf: true, Plane: api.Plane{Offset: 1}}, api.ErrNode},
		{Row{Leaf: true, Plane: api.Plane{Offset: -1}}, api.ErrNode},
		{Row{Leaf: true, Plane: api.Plane{Offset: 1 << 32}}, api.ErrNode},
		{Row{Leaf: true, Plane: api.Plane{Offset: math.MinInt64}}, api.ErrNode},
		{Row{Leaf: true, Right: 1}, api.ErrNode},
		{Row{Leaf: true, Right: -1}, api.ErrNode},
		{Row{Leaf: true, Right: math.MinInt}, api.ErrNode},
		{Row{Leaf: true, Right: 1 << 32}, api.ErrNode},
	} {
		for _, dim := range dims() {
			mustPut(t, x.want, x.r, dim)
		}
	}
	for _, odd := range oddInts() {
		mustPut(t, api.ErrNode, leaf(odd, 0), 1)
		mustPut(t, api.ErrNode, leaf(0, odd), 1)
		mustPut(t, api.ErrNode, Row{Leaf: true, Right: odd}, 1)
	}
}

func TestPutOfSplits(t *testing.T) {
	for _, x := range []struct {
		right int
		want  api.Errno
	}{{0, api.OK}, {1, api.OK}, {-1, api.ErrNode}, {mostRight - 1, api.OK}, {mostRight, api.OK}, {mostRight + 1, api.ErrNode}} {
		for _, dim := range dims() {
			mustPut(t, x.want, Row{Plane: plane.Flat(dim), Right: x.right}, dim)
		}
	}
	numbers := append(oddInts(), 1, 2, mostCount, mostPlace)
	for _, odd := range numbers {
		mustPut(t, api.ErrNode, Row{Plane: plane.Flat(1), Count: odd}, 1)
		mustPut(t, api.ErrNode, Row{Plane: plane.Flat(1), Place: odd}, 1)
		mustPut(t, api.ErrNode, Row{Plane: plane.Flat(1), Count: odd, Place: odd}, 1)
	}
	for _, odd := range oddInts() {
		mustPut(t, api.ErrNode, Row{Plane: plane.Flat(1), Right: odd}, 1)
	}
	mustPut(t, api.ErrNode, Row{}, 1)
}

func TestPutOfPlanes(t *testing.T) {
	for _, x := range []struct {
		p    api.Plane
		dim  int
		want api.Errno
	}{
		{api.Plane{Normal: []int32{0, 0}}, 2, api.OK},
		{api.Plane{Normal: []int32{mostNormal, -mostNormal}}, 2, api.OK},
		{api.Plane{Normal: []int32{mostNormal + 1, 0}}, 2, api.ErrNode},
		{api.Plane{Normal: []int32{0, mostNormal + 1}}, 2, api.ErrNode},
		{api.Plane{Normal: []int32{-mostNormal - 1, 0}}, 2, api.ErrNode},
		{api.Plane{Normal: []int32{0, -mostNormal - 1}}, 2, api.ErrNode},
		{api.Plane{Normal: []int32{math.MinInt32, 0}}, 2, api.ErrNode},
		{api.Plane{Normal: []int32{0, math.MaxInt32}}, 2, api.ErrNode},
		{api.Plane{Normal: []int32{1, 2}, Offset: mostOffset - 1}, 2, api.OK},
		{api.Plane{Normal: []int32{1, 2}, Offset: mostOffset}, 2, api.OK},
		{api.Plane{Normal: []int32{1, 2}, Offset: mostOffset + 1}, 2, api.ErrNode},
		{api.Plane{Normal: []int32{1, 2}, Offset: -mostOffset + 1}, 2, api.OK},
		{api.Plane{Normal: []int32{1, 2}, Offset: -mostOffset}, 2, api.OK},
		{api.Plane{Normal: []int32{1, 2}, Offset: -mostOffset - 1}, 2, api.ErrNode},
		{api.Plane{Normal: []int32{1, 2}, Offset: math.MinInt64}, 2, api.ErrNode},
		{api.Plane{Normal: []int32{1, 2}, Offset: math.MaxInt64}, 2, api.ErrNode},
		{api.Plane{Normal: nil}, 2, api.ErrNode},
		{api.Plane{Normal: []int32{}}, 1, api.ErrNode},
		{api.Plane{Normal: []int32{1}}, 2, api.ErrNode},
		{api.Plane{Normal: []int32{1, 2, 3}}, 2, api.ErrNode},
		{api.Plane{Normal: make([]int32, 1023)}, 1024, api.ErrNode},
		{api.Plane{Normal: make([]int32, 1024)}, 1024, api.OK},
		{api.Plane{Normal: make([]int32, 1025)}, 1024, api.ErrNode},
	} {
		mustPut(t, x.want, Row{Plane: x.p}, x.dim)
		mustPut(t, x.want, Row{Plane: x.p, Right: 77}, x.dim)
	}
}

// P15.1: Get

func TestGetOfDimensionsThatMayNotBe(t *testing.T) {
	for _, dim := range badDims() {
		for _, s := range []string{"", "x", written(leaf(2, 5), 1), written(cut(1, 2, 3), 1), strings.Repeat("\x00", 4113), "\x01" + strings.Repeat("\x00", 12)} {
			mustGet(t, api.ErrRange, s, dim)
		}
	}
}

func TestGetOfLengths(t *testing.T) {
	for _, dim := range dims() {
		for _, r := range []Row{leaf(2, 5), {Plane: plane.Flat(dim), Right: 9}} {
			s := written(r, dim)
			mustGet(t, api.OK, s, dim)
			for _, end := range []int{0, 1, 4, 5, 12, 13, 14, 16, len(s) - 4, len(s) - 1} {
				if end < len(s) {
					mustGet(t, api.ErrShort, s[:end], dim)
					mustGet(t, api.ErrShort, s[len(s)-end:], dim)
				}
			}
			for _, more := range []string{"\x00", "\x01", "\x00\x00\x00\x00", "\x00\x00\x00\x00\x00", s, strings.Repeat("\x00", 70000)} {
				mustGet(t, api.ErrForm, s+more, dim)
				mustGet(t, api.ErrForm, more+s, dim)
			}
			if dim < mostDim {
				mustGet(t, api.ErrShort, s, dim+1)
			}
			if dim > 1 {
				mustGet(t, api.ErrForm, s, dim-1)
			}
		}
	}
	// Fewer bytes come ahead of what they tell.
	mustGet(t, api.ErrShort, "\x03", 1)
	mustGet(t, api.ErrShort, strings.Repeat("\xFF", 16), 1)
}

func TestGetOfKinds(t *testing.T) {
	for kind := range 256 {
		for _, dim := range dims() {
			want := api.ErrForm
			if kind == 1 || kind == 2 {
				want = api.OK
			}
			mustGet(t, want, string([]byte{byte(kind)})+written(leaf(2, 5), dim)[1:], dim)
			mustGet(t, want, string([]byte{byte(kind)})+written(leaf(0, 0), dim)[1:], dim)
		}
	}
}

func TestGetOfNumbersBeyond(t *testing.T) {
	for _, x := range []struct {
		kind      string
		low, high int64
		normal    int64
		want      api.Errno
	}{
		{"\x01", mostCount, 0, 0, api.OK},
		{"\x01", mostCount + 1, 0, 0, api.ErrForm},
		{"\x01", 1 << 24, 0, 0, api.ErrForm},
		{"\x01", 1 << 31, 0, 0, api.ErrForm},
		{"\x01", -1, 0, 0, api.ErrForm},
		{"\x01", 0, mostPlace, 0, api.OK},
		{"\x01", 0, mostPlace + 1, 0, api.ErrForm},
		{"\x01", 0, 1 << 32, 0, api.ErrForm},
		{"\x01", 0, 1 << 56, 0, api.ErrForm},
		{"\x01", 0, math.MaxInt64, 0, api.ErrForm},
		{"\x01", 0, math.MinInt64, 0, api.ErrForm},
		{"\x01", 0, -1, 0, api.ErrForm},
		{"\x01", 0, 0, 1, api.ErrForm},
		{"\x01", 0, 0, -1, api.ErrForm},
		{"\x01", 0, 0, 1 << 24, api.ErrForm},
		{"\x02", mostRight, 0, 0, api.OK},
		{"\x02", mostRight + 1, 0, 0, api.ErrForm},
		{"\x02", 1 << 31, 0, 0, api.ErrForm},
		{"\x02", -1, 0, 0, api.ErrForm},
		{"\x02", 0, mostOffset, 0, api.OK},
		{"\x02", 0, mostOffset + 1, 0, api.ErrForm},
		{"\x02", 0, math.MaxInt64, 0, api.ErrForm},
		{"\x02", 0, -1, 0, api.OK},
		{"\x02", 0, -mostOffset, 0, api.OK},
		{"\x02", 0, -mostOffset - 1, 0, api.ErrForm},
		{"\x02", 0, math.MinInt64, 0, api.ErrForm},
		{"\x02", 0, 0, mostNormal, api.OK},
		{"\x02", 0, 0, mostNormal + 1, api.ErrForm},
		{"\x02", 0, 0, math.MaxInt32, api.ErrForm},
		{"\x02", 0, 0, -mostNormal, api.OK},
		{"\x02", 0, 0, -mostNormal - 1, api.ErrForm},
		{"\x02", 0, 0, math.MinInt32, api.ErrForm},
	} {
		head := x.kind + lowFirst(x.low, 4) + lowFirst(x.high, 8)
		for _, dim := range dims() {
			rest := strings.Repeat("\x00", 4*(dim-1))
			mustGet(t, x.want, head+lowFirst(x.normal, 4)+rest, dim)
			mustGet(t, x.want, head+rest+lowFirst(x.normal, 4), dim)
		}
	}
}

// Each byte is each other one.
func TestGetOfOneByteThatIsAnother(t *testing.T) {
	for _, r := range []Row{leaf(0, 0), leaf(2, 5), leaf(mostCount, mostPlace), cut(0, 0, 0, 0), cut(mostRight, mostOffset, mostNormal, -mostNormal), cut(mostRight, -mostOffset, -mostNormal, mostNormal), cut(258, -2, 1, -1)} {
		s := []byte(written(r, 2))
		for at, was := range s {
			for b := range 256 {
				s[at] = byte(b)
				e := holdGet(t, string(s), 2)
				if byte(b) == was && e != api.OK {
					t.Error(r, e)
				}
				if got, _ := Get(string(s), 2); byte(b) != was && alike(got, r) {
					t.Error("two records of one row", r, at, b)
				}
			}
			s[at] = was
		}
	}
}

func TestGetOfLeavesThatHaveANormal(t *testing.T) {
	for _, dim := range dims() {
		s := []byte(written(leaf(2, 5), dim))
		for at := 13; at < len(s); at++ {
			s[at] = byte(1 + at%255)
			mustGet(t, api.ErrForm, string(s), dim)
			s[at] = 0
		}
	}
}

func TestOfDrawnRows(t *testing.T) {
	r := rand.New(rand.NewSource(2))
	for range 20000 {
		dim := 1 + r.Intn(5)
		mustPut(t, api.OK, drawnRow(r, dim), dim)
		mustGet(t, api.OK, written(drawnRow(r, dim), dim), dim)
		holdPut(t, drawnRow(r, dim), r.Intn(8)-1)
		holdPut(t, drawnOdd(r, dim), dim)
	}
}

func TestOfDrawnTexts(t *testing.T) {
	r := rand.New(rand.NewSource(3))
	for range 40000 {
		dim := 1 + r.Intn(4)
		s := []byte(written(drawnRow(r, dim), dim))
		for range r.Intn(3) {
			s[r.Intn(len(s))] = byte(r.Intn(256))
		}
		if r.Intn(8) == 0 {
			r.Read(s)
			s[0] = byte(r.Intn(4))
		}
		if r.Intn(8) == 0 {
			s = s[:r.Intn(len(s)+1)]
		}
		holdGet(t, string(s), dim)
	}
}

// P15.2: Of

func TestOfLeaves(t *testing.T) {
	for _, place := range []int{math.MinInt, -1, 0, 1, 9, mostPlace, mostPlace + 1, 1 << 40, math.MaxInt} {
		for _, ids := range [][]int{nil, {}, {0}, {4, 2}, {-1, math.MaxInt, 3}, make([]int, 2000), make([]int, mostCount+1)} {
			want := Row{Leaf: true, Count: len(ids), Place: place}
			if r := Of(api.Node{Leaf: true, Ids: ids}, place); !alike(r, want) {
				t.Error(r)
			}
			// Nothing else of a leaf plays a part.
			if r := Of(api.Node{Leaf: true, Ids: ids, Plane: api.Plane{Normal: []int32{3}, Offset: 4}, Left: 5, Right: 6}, place); !alike(r, want) {
				t.Error(r)
			}
		}
	}
}

func TestOfSplits(t *testing.T) {
	for _, place := range []int{math.MinInt, -1, 0, 1, 9, mostPlace, math.MaxInt} {
		for _, right := range []int{math.MinInt, -1, 0, 2, 258, mostRight, mostRight + 1, math.MaxInt} {
			for _, p := range []api.Plane{{}, {Normal: []int32{0}}, {Normal: []int32{1, -1}, Offset: -2}, {Normal: []int32{math.MinInt32}, Offset: math.MinInt64}} {
				want := Row{Plane: p, Right: right}
				if r := Of(api.Node{Plane: p, Left: 1, Right: right}, place); !alike(r, want) {
					t.Error(r)
				}
				// Nothing else of a split plays a part.
				if r := Of(api.Node{Ids: []int{1, 2}, Plane: p, Left: 77, Right: right}, place); !alike(r, want) {
					t.Error(r)
				}
			}
		}
	}
}

// P15.2: Node

func TestNodeOfLeaves(t *testing.T) {
	for _, at := range []int{math.MinInt, -1, 0, 3, math.MaxInt} {
		for _, ids := range [][]int{nil, {}, {0}, {4, 2}, {-1, math.MaxInt, 3, 3}} {
			want := api.Node{Leaf: true, Ids: ids}
			for _, r := range []Row{leaf(len(ids), 5), leaf(0, 0), leaf(99, -1), {Leaf: true, Plane: api.Plane{Normal: []int32{1}, Offset: 2}, Right: 3}} {
				if x := Node(r, at, ids); !alikeNodes(x, want) {
					t.Error(x, want)
				}
			}
		}
	}
}

func TestNodeOfSplits(t *testing.T) {
	p := api.Plane{Normal: []int32{1, -1}, Offset: -2}
	for at, left := range map[int]int{0: 1, 1: 2, 41: 42, -1: 0, -2: -1, 1 << 32: 1<<32 + 1, math.MaxInt - 1: math.MaxInt, math.MaxInt: math.MinInt, math.MinInt: math.MinInt + 1} {
		for _, right := range []int{math.MinInt, -1, 0, 258, mostRight, math.MaxInt} {
			for _, ids := range [][]int{nil, {}, {4, 2}} {
				want := api.Node{Plane: p, Left: left, Right: right}
				if x := Node(Row{Plane: p, Right: right}, at, ids); !alikeNodes(x, want) {
					t.Error(x, want)
				}
				if x := Node(Row{Count: 3, Place: 4, Plane: p, Right: right}, at, ids); !alikeNodes(x, want) {
					t.Error(x, want)
				}
			}
		}
	}
	if x := Node(Row{}, 0, nil); !alikeNodes(x, api.Node{Left: 1}) {
		t.Error(x)
	}
}

// P15.3: there and back

// holdThereAndBack holds each node of a tree to be as it was, by way of its row, and of its record.
func holdThereAndBack(t *testing.T, nodes []api.Node, dim int) {
	t.Helper()
	for at, x := range nodes {
		r := Of(x, 7*at)
		if back := Node(r, at, x.Ids); !alikeNodes(back, x) {
			t.Fatal(x, back)
		}
		if again := Of(Node(r, at, x.Ids), 7*at); !alike(again, r) {
			t.Fatal(r, again)
		}
		s, e := Put(r, dim)
		got, e2 := Get(s, dim)
		if e != api.OK || e2 != api.OK || !alike(got, r) {
			t.Fatal(r, e, got, e2)
		}
		if back := Node(got, at, x.Ids); !alikeNodes(back, x) {
			t.Fatal(x, back)
		}
	}
}

func TestTreesThereAndBack(t *testing.T) {
	r := rand.New(rand.NewSource(4))
	for range 300 {
		dim := 1 + r.Intn(4)
		items, _ := data.New(dim)
		for range r.Intn(40) {
			v := make([]int32, dim)
			for i := range v {
				v[i] = int32(r.Intn(2*api.MaxCoord+1) - api.MaxCoord)
			}
			items.Add(v)
		}
		nodes, e := grow.Tree(items, api.Params{Trees: 1, Leaf: 1 + r.Intn(3), Depth: 1 + r.Intn(64)}, rng.Mix(r.Uint64()))
		if e == api.OK {
			holdThereAndBack(t, nodes, dim)
		}
	}
	nodes := []api.Node{{Plane: plane.Flat(2), Left: 1, Right: 2}, {Leaf: true, Ids: []int{1, 0}}, {Leaf: true}}
	if shape.Check(nodes, 2, 2) != api.OK {
		t.Error(nodes)
	}
	holdThereAndBack(t, nodes, 2)
}

// A row that may be is of a node that stands anywhere.
func TestRowsThereAndBack(t *testing.T) {
	r := rand.New(rand.NewSource(5))
	for range 5000 {
		row := drawnRow(r, 1+r.Intn(5))
		row.Count %= 50
		if again := Of(Node(row, r.Int(), make([]int, row.Count)), row.Place); !alike(again, row) {
			t.Fatal(row, again)
		}
	}
}

// Rule 3: new memory, and what is handed in is not changed.

// spoil writes into a list, and into all its room.
func spoil[T int | int32](l []T) {
	l = l[:cap(l)]
	for i := range l {
		l[i] = -77
	}
	_ = append(l, -78)
}

// roomy is a list with spare room, in which there are numbers of others.
func roomy[T int | int32](l ...T) []T {
	all := append(slices.Clone(l), -5, -6, -7)
	return all[:len(l)]
}

// untouched: is a roomy list as it was, and its room too?
func untouched[T int | int32](l []T, was ...T) bool {
	return slices.Equal(l, was) && slices.Equal(l[:len(l)+3], append(slices.Clone(was), -5, -6, -7))
}

func TestPutLeavesWhatIsHandedIn(t *testing.T) {
	for _, dim := range []int{0, 1, 2, 3} {
		normal := roomy[int32](1, -1)
		Put(cut(3, 4, normal...), dim)
		Put(Row{Leaf: true, Plane: api.Plane{Normal: normal[:0]}}, dim)
		if !untouched(normal, 1, -1) {
			t.Error(dim, normal[:5])
		}
	}
}

func TestGetIsNewMemory(t *testing.T) {
	s := written(cut(3, 4, 5, 6), 2)
	one, _ := Get(s, 2)
	two, _ := Get(s, 2)
	spoil(one.Plane.Normal)
	three, _ := Get(s, 2)
	if !alike(two, cut(3, 4, 5, 6)) || !alike(three, two) {
		t.Error(two, three)
	}
}

func TestOfIsNewMemory(t *testing.T) {
	normal, ids := roomy[int32](1, -1), roomy(4, 2)
	split, end := api.Node{Plane: api.Plane{Normal: normal, Offset: 3}, Right: 9}, api.Node{Leaf: true, Ids: ids}
	one, two := Of(split, 1), Of(split, 1)
	spoil(one.Plane.Normal)
	if !untouched(normal, 1, -1) || !alike(two, cut(9, 3, 1, -1)) {
		t.Error(normal[:5], two)
	}
	of := Of(end, 1)
	spoil(normal)
	spoil(ids)
	if !alike(two, cut(9, 3, 1, -1)) || !alike(of, leaf(2, 1)) {
		t.Error(two, of)
	}
}

func TestNodeIsNewMemory(t *testing.T) {
	normal, ids := roomy[int32](1, -1), roomy(4, 2)
	split, end := cut(9, 3, normal...), leaf(2, 5)
	one, two := Node(split, 0, ids), Node(split, 0, ids)
	first, second := Node(end, 0, ids), Node(end, 0, ids)
	spoil(one.Plane.Normal)
	spoil(one.Ids)
	spoil(first.Ids)
	spoil(first.Plane.Normal)
	if !untouched(normal, 1, -1) || !untouched(ids, 4, 2) {
		t.Error(normal[:5], ids[:5])
	}
	spoil(normal)
	spoil(ids)
	if !alikeNodes(two, api.Node{Plane: api.Plane{Normal: []int32{1, -1}, Offset: 3}, Left: 1, Right: 9}) || !alikeNodes(second, api.Node{Leaf: true, Ids: []int{4, 2}}) {
		t.Error(two, second)
	}
}

// Empty lists with room: what is answered has none of theirs.
func TestOfEmptyListsWithRoom(t *testing.T) {
	normal, ids := roomy[int32](), roomy[int]()
	spoil(Of(api.Node{Plane: api.Plane{Normal: normal}}, 0).Plane.Normal)
	spoil(Node(Row{Plane: api.Plane{Normal: normal}}, 0, ids).Plane.Normal)
	spoil(Node(leaf(0, 0), 0, ids).Ids)
	if !untouched(normal) || !untouched(ids) {
		t.Error(normal[:3], ids[:3])
	}
}

// Rule 4: what is answered hangs on nothing but what is asked, side by side too.
func TestSideBySide(t *testing.T) {
	ids := []int{4, 2}
	node := api.Node{Plane: api.Plane{Normal: []int32{1, -1}, Offset: -2}, Right: 9}
	rows := []Row{leaf(2, 5), cut(258, -2, 1, -1), leaf(-1, 0), cut(mostRight, mostOffset, mostNormal, 0)}
	var group sync.WaitGroup
	for range 8 {
		group.Go(func() {
			for i := range 400 {
				r := rows[i%len(rows)]
				s, e := Put(r, 2)
				if want, wantE := put(r, 2); s != want || e != wantE {
					t.Error(r, s, e)
				}
				if back, backE := Get(s, 2); backE == api.OK && !alike(back, r) {
					t.Error(r, back)
				}
				if x := Node(r, 3, ids); x.Leaf && !slices.Equal(x.Ids, ids) || x.Leaf != r.Leaf {
					t.Error(x)
				}
				if of := Of(node, 3); !alike(of, cut(9, -2, 1, -1)) {
					t.Error(of)
				}
			}
		})
	}
	group.Wait()
}
