package zbscan_test

import (
	"fmt"
	"math"
	"math/big"
	"math/rand"
	"slices"
	"testing"

	"indenture/api"
	"indenture/node"
	"indenture/page"
	"indenture/zbscan"
	"indenture/zbtree"
)

const (
	least    = math.MinInt64
	greatest = math.MaxInt64
)

// dims: all dimensions that there are, and some on both sides that there aren't.
var dims = []int{math.MinInt, -1, 0, 1, 2, 3, 4, 5, 6, 7, 8, 9, 10, 255, 256, math.MaxInt}

var one = big.NewInt(1)

// number tells a point's code by the words of layer 5, as a number without bound.
func number(p api.Row) *big.Int {
	n := new(big.Int)
	for bit := 63; bit >= 0; bit-- {
		for _, x := range p {
			n.Lsh(n, 1)
			n.SetBit(n, 0, uint((uint64(x)+1<<63)>>bit&1))
		}
	}
	return n
}

// point tells the point of d numbers whose code a number is.
func point(n *big.Int, d int) api.Row {
	p := make(api.Row, d)
	for i := range p {
		x := uint64(0)
		for bit := range 64 {
			x |= uint64(n.Bit(bit*d+d-1-i)) << bit
		}
		p[i] = int64(x + 1<<63)
	}
	return p
}

// code tells a number as a code of d numbers.
func code(n *big.Int, d int) []byte { return n.FillBytes(make([]byte, 8*d)) }

// end tells the last code of d numbers.
func end(d int) *big.Int {
	n := new(big.Int).Lsh(one, uint(64*d))
	return n.Sub(n, one)
}

// has: is a point in a box?
func has(b api.Box, p api.Row) bool {
	for i, x := range p {
		if x < b.Lo[i] || x > b.Hi[i] {
			return false
		}
	}
	return true
}

// firstIn tells the first code from c on that is in a box, nil, if there is none. It is c, or it has with c the bits ahead of one that c has 0 and it has 1, as far behind as may be; all points with such bits are a box.
func firstIn(c *big.Int, b api.Box) *big.Int {
	d := len(b.Lo)
	p := point(c, d)
	if has(b, p) {
		return c
	}
	for bit := range 64 * d {
		if c.Bit(bit) == 1 {
			continue
		}
		lo, fits := make(api.Row, d), true
		for i, x := range p {
			free := uint64(1)<<((bit+i)/d) - 1 // the bits of this number that stand behind that one
			from := (uint64(x) + 1<<63) &^ free
			if bit%d == d-1-i {
				from |= 1 << (bit / d)
			}
			to := int64((from | free) + 1<<63)
			lo[i] = max(int64(from+1<<63), b.Lo[i])
			fits = fits && lo[i] <= min(to, b.Hi[i])
		}
		if fits {
			return number(lo)
		}
	}
	return nil
}

// list is what a tree has by the chapter's words: rows by their codes.
type list struct {
	d     int
	rows  []api.Row
	codes []*big.Int
}

// listed tells a list of rows of d numbers.
func listed(d int, rows []api.Row) *list {
	l := &list{d: d}
	type item struct {
		row  api.Row
		code *big.Int
	}
	var items []item
	for _, r := range rows {
		items = append(items, item{r, number(r)})
	}
	slices.SortFunc(items, func(a, b item) int { return a.code.Cmp(b.code) })
	for _, x := range items {
		l.rows, l.codes = append(l.rows, x.row), append(l.codes, x.code)
	}
	return l
}

// from tells how many rows are ahead of a code.
func (l *list) from(c *big.Int) int {
	at := 0
	for at < len(l.codes) && l.codes[at].Cmp(c) < 0 {
		at++
	}
	return at
}

// upTo tells how many rows aren't behind a code.
func (l *list) upTo(c *big.Int) int {
	at := len(l.codes)
	for at > 0 && l.codes[at-1].Cmp(c) > 0 {
		at--
	}
	return at
}

// scanned is a scan by the chapter's words.
type scanned struct {
	rows   []api.Row  // that are in the box
	looked []api.Row  // that were looked at
	from   []*big.Int // from which codes on a row was sought
}

// scan does a scan by the chapter's words.
func (l *list) scan(b api.Box) scanned {
	var s scanned
	for c := number(b.Lo); c != nil; c = firstIn(c, b) {
		s.from = append(s.from, c)
		at := l.from(c)
		if at == len(l.rows) {
			break
		}
		s.looked = append(s.looked, l.rows[at])
		c = l.codes[at]
		if has(b, l.rows[at]) {
			s.rows = append(s.rows, l.rows[at])
			if c.Cmp(end(l.d)) == 0 {
				break
			}
			c = new(big.Int).Add(c, one)
		}
	}
	return s
}

// in tells the rows that are in a box.
func (l *list) in(b api.Box) []api.Row {
	var in []api.Row
	for _, r := range l.rows {
		if has(b, r) {
			in = append(in, r)
		}
	}
	return in
}

// tree is a tree in a store, and what it has.
type tree struct {
	*list
	store *page.Store
	kid   api.Kid
}

// built tells the tree that Build makes of rows.
func built(t *testing.T, d int, rows []api.Row) *tree {
	t.Helper()
	s := page.New()
	k, err := zbtree.Build(s, rows, d)
	if err != api.OK {
		t.Fatalf("error %d", err)
	}
	return &tree{listed(d, rows), s, k}
}

// grown tells a tree to which rows came one by one, and from which half as many others went meanwhile.
func grown(t *testing.T, random *rand.Rand, d int, rows []api.Row) *tree {
	t.Helper()
	s := page.New()
	var k api.Kid
	var gone []api.Row
	for i, p := range rows {
		other := slices.Clone(p)
		other[i%d] ^= 1 << 40
		if !slices.ContainsFunc(rows, func(q api.Row) bool { return slices.Equal(q, other) }) && i%2 == 0 {
			k = inserted(t, s, k, other, d)
			gone = append(gone, other)
		}
		k = inserted(t, s, k, p, d)
		if len(gone) > 5 {
			at := random.Intn(len(gone))
			k = deleted(t, s, k, gone[at], d)
			gone = slices.Delete(gone, at, at+1)
		}
	}
	for _, p := range gone {
		k = deleted(t, s, k, p, d)
	}
	return &tree{listed(d, rows), s, k}
}

func inserted(t *testing.T, s *page.Store, k api.Kid, p api.Row, d int) api.Kid {
	t.Helper()
	k, err := zbtree.Insert(s, k, p, d)
	if err != api.OK {
		t.Fatalf("%d: error %d", p, err)
	}
	return k
}

func deleted(t *testing.T, s *page.Store, k api.Kid, p api.Row, d int) api.Kid {
	t.Helper()
	k, err := zbtree.Delete(s, k, p, d)
	if err != api.OK {
		t.Fatalf("%d: error %d", p, err)
	}
	return k
}

// height tells how many levels a tree has.
func (x *tree) height(t *testing.T) int {
	t.Helper()
	h, err := zbtree.Height(x.store, x.kid, x.d)
	if err != api.OK {
		t.Fatalf("error %d", err)
	}
	return h
}

// known is a tree of rows of one number.
func known(t *testing.T, numbers ...int64) *tree {
	t.Helper()
	var rows []api.Row
	for _, x := range numbers {
		rows = append(rows, api.Row{x})
	}
	return built(t, 1, rows)
}

// put puts a node.
func put(t *testing.T, s *page.Store, d int, n api.Node) api.Kid {
	t.Helper()
	k, err := node.Put(s, n, d)
	if err != api.OK {
		t.Fatalf("error %d", err)
	}
	return k
}

// leaf tells a Leaf of rows.
func leaf(rows ...api.Row) api.Node {
	n := api.Node{Kind: api.Leaf}
	for _, r := range rows {
		n.Rows = append(n.Rows, api.Entry{Row: r, Live: true})
	}
	return n
}

// numbers of a wide and of a narrow kind.
var (
	narrow = []int64{-2, -1, 0, 1, 2, 3}
	wide   = []int64{least, least + 1, -1 << 32, -1, 0, 1, 1 << 32, greatest - 1, greatest}
)

// some tells a point of some numbers.
func some(random *rand.Rand, d int, of []int64) api.Row {
	p := make(api.Row, d)
	for i := range p {
		p[i] = of[random.Intn(len(of))]
	}
	return p
}

// points tells so many points, no two of which are the same: of few numbers, as long as these are enough.
func points(random *rand.Rand, d, n int, of []int64) []api.Row {
	var l []api.Row
	met := map[string]bool{}
	for tries := 0; len(l) < n; tries++ {
		p := some(random, d, of)
		if tries > 2*n {
			p[random.Intn(d)] = int64(tries)
		}
		if name := fmt.Sprint(p); !met[name] {
			met[name] = true
			l = append(l, p)
		}
	}
	return l
}

// trees tells trees of points of d numbers, built and grown ones: of no rows, of one Leaf, of two to five levels, of few numbers, of the least and the greatest ones, and of all kinds.
func trees(t *testing.T, random *rand.Rand, d int) []*tree {
	t.Helper()
	var l []*tree
	for _, n := range []int{0, 1, 2, 4, 5, 9, 17, 40, 70, 150} {
		mixed := append(slices.Clone(wide), random.Int63(), -random.Int63(), random.Int63n(1<<20), 5, 6, 7)
		l = append(l, built(t, d, points(random, d, n, wide)), grown(t, random, d, points(random, d, n, narrow)))
		l = append(l, built(t, d, points(random, d, n, mixed)), grown(t, random, d, points(random, d, n, mixed)))
	}
	return l
}

// around tells codes: the first one and the last one, those of a tree's rows, those behind them and ahead of them, and some between.
func (x *tree) around(random *rand.Rand) []*big.Int {
	l := []*big.Int{new(big.Int), end(x.d), new(big.Int).Rsh(end(x.d), 1)}
	for _, c := range x.codes {
		l = append(l, c)
		if c.Sign() > 0 {
			l = append(l, new(big.Int).Sub(c, one))
		}
		if c.Cmp(end(x.d)) < 0 {
			l = append(l, new(big.Int).Add(c, one))
		}
	}
	for range 10 {
		l = append(l, new(big.Int).Rand(random, end(x.d)), number(some(random, x.d, narrow)), number(some(random, x.d, wide)))
	}
	return l
}

// span tells the least box of two points.
func span(p, q api.Row) api.Box {
	b := api.Box{Lo: slices.Clone(p), Hi: slices.Clone(p)}
	for i, x := range q {
		b.Lo[i], b.Hi[i] = min(b.Lo[i], x), max(b.Hi[i], x)
	}
	return b
}

// all tells a point of so many numbers that are alike.
func all(d int, x int64) api.Row { return slices.Repeat(api.Row{x}, d) }

// whole tells the box of all points.
func whole(d int) api.Box { return api.Box{Lo: all(d, least), Hi: all(d, greatest)} }

// boxes tells boxes for a tree: of all points; of each of its rows alone, and of the points beside it; between two of its rows; thin ones, as long as may be; beside all its rows; and of chance.
func (x *tree) boxes(random *rand.Rand) []api.Box {
	d := x.d
	l := []api.Box{whole(d), span(all(d, least), all(d, least)), span(all(d, greatest), all(d, greatest)), span(all(d, least), all(d, -1)), span(all(d, 0), all(d, greatest)), span(all(d, -1), all(d, 0)), span(all(d, 77), all(d, 99))}
	for range min(len(x.rows), 12) {
		p, q := x.rows[random.Intn(len(x.rows))], x.rows[random.Intn(len(x.rows))]
		beside := slices.Clone(p)
		beside[random.Intn(d)] ^= 1
		l = append(l, span(p, p), span(beside, beside), span(p, beside), span(p, q), span(p, some(random, d, wide)))
	}
	for range 12 {
		p, q := some(random, d, append(narrow, wide...)), some(random, d, append(narrow, wide...))
		l = append(l, span(p, q), span(some(random, d, narrow), some(random, d, narrow)))
		thin := span(p, p)
		for i := range d {
			if random.Intn(d) == 0 {
				thin.Lo[i], thin.Hi[i] = least, greatest
			}
		}
		l = append(l, thin)
		side, plate := random.Intn(d), whole(d)
		plate.Lo[side], plate.Hi[side] = p[side], p[side]
		l = append(l, plate)
	}
	return l
}

func count(is bool) int {
	if is {
		return 1
	}
	return 0
}

func alike(a, b []api.Row) bool {
	return slices.EqualFunc(a, b, func(p, q api.Row) bool { return slices.Equal(p, q) })
}

// firstIs holds First and Last at a code against the list.
func (x *tree) firstIs(t *testing.T, c *big.Int) {
	t.Helper()
	var first, last api.Row
	if at := x.from(c); at < len(x.rows) {
		first = x.rows[at]
	}
	if at := x.upTo(c); at > 0 {
		last = x.rows[at-1]
	}
	if r, ok, err := zbscan.First(x.store, x.kid, code(c, x.d), x.d); !slices.Equal(r, first) || ok != (first != nil) || err != api.OK {
		t.Fatalf("First from the code of %d: %d, %t, error %d, not %d", point(c, x.d), r, ok, err, first)
	}
	if r, ok, err := zbscan.Last(x.store, x.kid, code(c, x.d), x.d); !slices.Equal(r, last) || ok != (last != nil) || err != api.OK {
		t.Fatalf("Last up to the code of %d: %d, %t, error %d, not %d", point(c, x.d), r, ok, err, last)
	}
}

// scanIs holds Scan by a box against the chapter's words, and tells the scan by these.
func (x *tree) scanIs(t *testing.T, b api.Box) scanned {
	t.Helper()
	want := x.scan(b)
	if rows, looked, err := zbscan.Scan(x.store, x.kid, b, x.d); !alike(rows, want.rows) || looked != len(want.looked) || err != api.OK {
		t.Fatalf("Scan by %d: %d, %d looked at, error %d, not %d, %d", b, rows, looked, err, want.rows, len(want.looked))
	}
	return want
}

// piecesAre holds Pieces by a box against the list.
func (x *tree) piecesAre(t *testing.T, b api.Box, depth int) {
	t.Helper()
	if rows, err := zbscan.Pieces(x.store, x.kid, b, x.d, depth); !alike(rows, x.in(b)) || err != api.OK {
		t.Fatalf("Pieces by %d, %d deep: %d, error %d, not %d", b, depth, rows, err, x.in(b))
	}
}

// firstRefused holds First and Last at a code against an error.
func firstRefused(t *testing.T, s *page.Store, k api.Kid, c []byte, d int, want api.Errno, what ...any) {
	t.Helper()
	if r, ok, err := zbscan.First(s, k, c, d); len(r) > 0 || ok || err != want {
		t.Errorf("First: %d, %t, error %d, not %d: %v", r, ok, err, want, what)
	}
	if r, ok, err := zbscan.Last(s, k, c, d); len(r) > 0 || ok || err != want {
		t.Errorf("Last: %d, %t, error %d, not %d: %v", r, ok, err, want, what)
	}
}

// scanRefused holds Scan and Pieces by a box against an error.
func scanRefused(t *testing.T, s *page.Store, k api.Kid, b api.Box, d int, want api.Errno, what ...any) {
	t.Helper()
	if rows, looked, err := zbscan.Scan(s, k, b, d); len(rows) > 0 || looked != 0 || err != want {
		t.Errorf("Scan: %d, %d looked at, error %d, not %d: %v", rows, looked, err, want, what)
	}
	for depth := range 11 {
		piecesRefused(t, s, k, b, d, depth, want, what...)
	}
}

// piecesRefused holds Pieces by a box against an error.
func piecesRefused(t *testing.T, s *page.Store, k api.Kid, b api.Box, d, depth int, want api.Errno, what ...any) {
	t.Helper()
	if rows, err := zbscan.Pieces(s, k, b, d, depth); len(rows) > 0 || err != want {
		t.Errorf("Pieces %d deep: %d, error %d, not %d: %v", depth, rows, err, want, what)
	}
}

// nothingPut holds against a store that it has the same pages as it had.
func nothingPut(t *testing.T, s *page.Store, was []api.Digest) {
	t.Helper()
	if !slices.Equal(s.Sums(), was) {
		t.Errorf("%d pages, there were %d", s.Len(), len(was))
	}
}
