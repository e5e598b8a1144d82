package ask_test

import (
	"fmt"
	"math"
	"math/big"
	"math/rand"
	"slices"
	"testing"

	"indenture/api"
	"indenture/ask"
	"indenture/kdtree"
	"indenture/node"
	"indenture/page"
	"indenture/zbtree"
)

const (
	least    = math.MinInt64
	greatest = math.MaxInt64
)

// dims: all dimensions that there are, and some on both sides that there aren't.
var dims = []int{math.MinInt, -1, 0, 1, 2, 3, 4, 5, 6, 7, 8, 9, 10, 255, 256, math.MaxInt}

// boxRight: is a box right for d dimensions, by the words of layer 4?
func boxRight(b api.Box, d int) bool {
	if d < 1 || d > 8 || len(b.Lo) != d || len(b.Hi) != d {
		return false
	}
	for i := range d {
		if b.Lo[i] > b.Hi[i] {
			return false
		}
	}
	return true
}

// orderRight: is an order right for d dimensions, by the words of layer 4?
func orderRight(o api.Order, d int) bool {
	return d >= 1 && d <= 8 && (o.Kind == 0 && o.Col == 0 && len(o.At) == 0 ||
		o.Kind == 1 && o.Col >= 1 && o.Col <= d-1 && len(o.At) == 0 ||
		o.Kind == 2 && o.Col >= 0 && o.Col <= d-1 && len(o.At) == 0 ||
		o.Kind == 3 && o.Col == 0 && len(o.At) == d-1 && d >= 2)
}

// mayBe: may a query be for d dimensions?
func mayBe(q api.Query, d int) bool {
	zero := q.Order.Kind == 0 && q.Order.Col == 0 && len(q.Order.At) == 0 && q.Limit == 0
	fits := orderRight(q.Order, d) && (q.Limit == -1 || q.Limit >= 0 && q.Limit <= 1000)
	return boxRight(q.Box, d) && (q.Count && zero || !q.Count && fits)
}

// has: is a point in a box of as many numbers?
func has(b api.Box, p api.Row) bool {
	for i, x := range p {
		if x < b.Lo[i] || x > b.Hi[i] {
			return false
		}
	}
	return true
}

// holds: is all of b in a? Both its corners are then.
func holds(a, b api.Box) bool {
	return boxRight(a, len(a.Lo)) && boxRight(b, len(a.Lo)) && has(a, b.Lo) && has(a, b.Hi)
}

// cut tells the points of both boxes, and whether there are any.
func cut(a, b api.Box) (api.Box, bool) {
	if !boxRight(a, len(a.Lo)) || !boxRight(b, len(a.Lo)) {
		return api.Box{}, false
	}
	c := api.Box{}
	for i := range a.Lo {
		c.Lo, c.Hi = append(c.Lo, max(a.Lo[i], b.Lo[i])), append(c.Hi, min(a.Hi[i], b.Hi[i]))
	}
	return c, boxRight(c, len(a.Lo))
}

// place is where a row stands in an order: its key, as a number without bound, and its id.
type place struct {
	key *big.Int
	id  int64
}

func (x place) cmp(y place) int {
	if c := x.key.Cmp(y.key); c != 0 {
		return c
	}
	return big.NewInt(x.id).Cmp(big.NewInt(y.id))
}

// placeOf tells a row's place, by the words of layer 4.
func placeOf(o api.Order, p api.Row) place {
	half := new(big.Int).Lsh(big.NewInt(1), 63)
	key := new(big.Int)
	switch o.Kind {
	case 0:
		key.Add(big.NewInt(p[0]), half)
	case 1:
		key.Add(big.NewInt(p[o.Col]), half)
	case 2:
		key.Sub(big.NewInt(greatest), big.NewInt(p[o.Col]))
	case 3:
		for i, x := range o.At {
			apart := new(big.Int).Sub(big.NewInt(p[i+1]), big.NewInt(x))
			key.Add(key, apart.Abs(apart))
		}
	}
	return place{key, p[0]}
}

// leastOf tells the least key and the least id of the points in a box: no point has a lesser key than the one whose numbers are as near as may be to what the order wants.
func leastOf(o api.Order, b api.Box) place {
	p := slices.Clone(b.Lo)
	switch o.Kind {
	case 2:
		p = slices.Clone(b.Hi)
	case 3:
		for i, x := range o.At {
			p[i+1] = min(max(x, b.Lo[i+1]), b.Hi[i+1])
		}
	}
	return place{placeOf(o, p).key, b.Lo[0]}
}

// isOpen: is a tree open to a query?
func isOpen(q api.Query, k api.Kid) bool {
	_, meets := cut(k.Box, q.Box)
	return k.Live != 0 && meets && (q.Count && !holds(q.Box, k.Box) || !q.Count && q.Limit != 0)
}

// isPast: is a tree beyond a row by what both boxes have?
func isPast(q api.Query, k api.Kid, last api.Row) bool {
	c, meets := cut(q.Box, k.Box)
	d := len(q.Box.Lo)
	return meets && len(last) == d && orderRight(q.Order, d) && placeOf(q.Order, last).cmp(leastOf(q.Order, c)) < 0
}

// placed is a row with its place.
type placed struct {
	place
	row api.Row
}

// first is a list of rows in an order, to which one comes at a time, behind those that it isn't ahead of.
type first struct {
	query api.Query
	rows  []placed
}

// take takes a row; tied tells whether of those that are alike in the order the lesser one in its other numbers is ahead, or the one that came first.
func (f *first) take(p api.Row, tied bool) {
	x := placed{placeOf(f.query.Order, p), p}
	at := len(f.rows)
	for at > 0 {
		c := x.cmp(f.rows[at-1].place)
		if c > 0 || c == 0 && (!tied || slices.Compare(p, f.rows[at-1].row) >= 0) {
			break
		}
		at--
	}
	f.rows = slices.Insert(f.rows, at, x)
}

// answer tells the first Limit ones, or how many they are.
func (f *first) answer() api.Answer {
	if f.query.Count {
		return api.Answer{Count: len(f.rows)}
	}
	var a api.Answer
	for i, x := range f.rows {
		if f.query.Limit == -1 || i < f.query.Limit {
			a.Rows = append(a.Rows, x.row)
		}
	}
	return a
}

// answerOf tells the answer to a query that may be, by rows of as many dimensions.
func answerOf(l []api.Row, q api.Query) api.Answer {
	f := first{query: q}
	for _, p := range l {
		if has(q.Box, p) {
			f.take(p, false)
		}
	}
	return f.answer()
}

// walked is how a tree is gone through by the chapter's words.
type walked struct {
	first
	store  *page.Store
	d      int
	closed int          // rows of trees that weren't looked into, which count
	got    []api.Digest // the nodes
	err    api.Errno
}

// walk goes through a tree by the chapter's words.
func walk(s *page.Store, k api.Kid, q api.Query, d int) *walked {
	w := &walked{first: first{query: q}, store: s, d: d}
	w.tree(k)
	return w
}

// tree looks into a tree.
func (w *walked) tree(k api.Kid) {
	if !isOpen(w.query, k) {
		if w.query.Count && holds(w.query.Box, k.Box) {
			w.closed += k.Live
		}
		return
	}
	if limit := w.query.Limit; limit > 0 && len(w.rows) >= limit && isPast(w.query, k, w.rows[limit-1].row) {
		return
	}
	n, err := node.Get(w.store, k, w.d)
	if err != api.OK {
		w.err = api.ErrForm
		return
	}
	w.got = append(w.got, k.Sum)
	for _, e := range n.Rows {
		if e.Live && has(w.query.Box, e.Row) {
			w.take(e.Row, true)
		}
	}
	for left := n.Kids; len(left) > 0; {
		at := w.next(left)
		w.tree(left[at])
		left = slices.Delete(slices.Clone(left), at, at+1)
	}
}

// next tells which kid is looked into first: that whose least place is ahead, of those that are alike the first one. Kids that aren't open come at once, as nothing is got for them.
func (w *walked) next(kids []api.Kid) int {
	at, ahead := 0, place{}
	for i, k := range kids {
		if !isOpen(w.query, k) {
			return i
		}
		c, _ := cut(w.query.Box, k.Box)
		if x := leastOf(w.query.Order, c); i == 0 || x.cmp(ahead) < 0 {
			at, ahead = i, x
		}
	}
	return at
}

// answer tells the answer.
func (w *walked) answer() api.Answer {
	a := w.first.answer()
	a.Count += w.closed
	return a
}

// kind is one of both trees' calls.
type kind struct {
	name           string
	build          func(s *page.Store, l []api.Row, d int) (api.Kid, api.Errno)
	insert, delete func(s *page.Store, k api.Kid, p api.Row, d int) (api.Kid, api.Errno)
	rows           func(s *page.Store, k api.Kid, d int) ([]api.Row, api.Errno)
}

var kinds = []kind{
	{"k-d", kdtree.Build, kdtree.Insert, kdtree.Delete, kdtree.Rows},
	{"Z-order", zbtree.Build, zbtree.Insert, zbtree.Delete, zbtree.Rows},
}

// tree is a tree in a store, and its live rows.
type tree struct {
	kind
	store *page.Store
	kid   api.Kid
	d     int
	live  []api.Row
}

// built tells the tree that Build makes of rows.
func built(t *testing.T, of kind, d int, rows []api.Row) *tree {
	t.Helper()
	s := page.New()
	k, err := of.build(s, rows, d)
	if err != api.OK {
		t.Fatalf("error %d", err)
	}
	return &tree{of, s, k, d, rows}
}

// grown tells a tree to which rows came one by one, and from which as many others went meanwhile, so that a k-d tree has tombstones.
func grown(t *testing.T, random *rand.Rand, of kind, d int, rows []api.Row) *tree {
	t.Helper()
	x := &tree{of, page.New(), api.Kid{}, d, rows}
	var gone []api.Row
	for i, p := range rows {
		other := slices.Clone(p)
		other[i%d] ^= 1 << 40
		if !slices.ContainsFunc(rows, func(q api.Row) bool { return slices.Equal(q, other) }) {
			x.turn(t, of.insert, other)
			gone = append(gone, other)
		}
		x.turn(t, of.insert, p)
		if len(gone) > 5 {
			at := random.Intn(len(gone))
			x.turn(t, of.delete, gone[at])
			gone = slices.Delete(gone, at, at+1)
		}
	}
	for _, p := range gone {
		x.turn(t, of.delete, p)
	}
	return x
}

// turn makes another tree of one.
func (x *tree) turn(t *testing.T, call func(s *page.Store, k api.Kid, p api.Row, d int) (api.Kid, api.Errno), p api.Row) {
	t.Helper()
	k, err := call(x.store, x.kid, p, x.d)
	if err != api.OK {
		t.Fatalf("%s, %d: error %d", x.name, p, err)
	}
	x.kid = k
}

// nodes tells how many nodes a tree has.
func (x *tree) nodes(t *testing.T) int {
	t.Helper()
	n := 0
	for trees := []api.Kid{x.kid}; len(trees) > 0; {
		k := trees[0]
		if trees = trees[1:]; node.Empty(k) {
			continue
		}
		y, err := node.Get(x.store, k, x.d)
		if err != api.OK {
			t.Fatalf("error %d", err)
		}
		n, trees = n+1, append(trees, y.Kids...)
	}
	return n
}

// is holds Tree by a query against the chapter's words, and tells how it is gone through by these.
func (x *tree) is(t *testing.T, q api.Query) *walked {
	t.Helper()
	w := walk(x.store, x.kid, q, x.d)
	a, got, err := ask.Tree(x.store, x.kid, q, x.d)
	switch {
	case err != w.err:
		t.Fatalf("%s, %+v: error %d, not %d", x.name, q, err, w.err)
	case err != api.OK && (len(a.Rows) > 0 || a.Count != 0 || got != 0):
		t.Fatalf("%s, %+v: error %d beside %+v, %d", x.name, q, err, a, got)
	case err == api.OK && (!same(a, w.answer()) || got != len(w.got)):
		t.Fatalf("%s, %+v: %+v, %d were got, not %+v, %d", x.name, q, a, got, w.answer(), len(w.got))
	}
	return w
}

// treeRefused holds Tree against an error.
func treeRefused(t *testing.T, s *page.Store, k api.Kid, q api.Query, d int, want api.Errno, what ...any) {
	t.Helper()
	if a, got, err := ask.Tree(s, k, q, d); len(a.Rows) > 0 || a.Count != 0 || got != 0 || err != want {
		t.Errorf("Tree by %+v, %d: %+v, %d were got, error %d, not %d: %v", q, d, a, got, err, want, what)
	}
}

// put puts a node.
func put(t *testing.T, s *page.Store, d int, n api.Node) api.Kid {
	t.Helper()
	k, err := node.Put(s, n, d)
	if err != api.OK {
		t.Fatalf("error %d", err)
	}
	return k
}

// leaf tells a Leaf of rows.
func leaf(rows ...api.Row) api.Node {
	n := api.Node{Kind: api.Leaf}
	for _, r := range rows {
		n.Rows = append(n.Rows, api.Entry{Row: r, Live: true})
	}
	return n
}

// fork tells a Fork.
func fork(r api.Row, live bool, a, b api.Kid) api.Node {
	return api.Node{Kind: api.Fork, Rows: []api.Entry{{Row: r, Live: live}}, Kids: []api.Kid{a, b}}
}

// numbers of a wide and of a narrow kind.
var (
	narrow = []int64{-2, -1, 0, 1, 2, 3}
	wide   = []int64{least, least + 1, -1 << 32, -1, 0, 1, 1 << 32, greatest - 1, greatest}
)

// some tells a point of some numbers.
func some(random *rand.Rand, d int, of []int64) api.Row {
	p := make(api.Row, d)
	for i := range p {
		p[i] = of[random.Intn(len(of))]
	}
	return p
}

// points tells so many points, no two of which are the same: of few numbers, as long as these are enough.
func points(random *rand.Rand, d, n int, of []int64) []api.Row {
	var l []api.Row
	met := map[string]bool{}
	for tries := 0; len(l) < n; tries++ {
		p := some(random, d, of)
		if tries > 2*n {
			p[random.Intn(d)] = int64(tries)
		}
		if name := fmt.Sprint(p); !met[name] {
			met[name] = true
			l = append(l, p)
		}
	}
	return l
}

// numbered tells so many points with unlike ids, as a table has them.
func numbered(random *rand.Rand, d, n int, of []int64) []api.Row {
	var l []api.Row
	for i, id := range random.Perm(n) {
		p := some(random, d, of)
		p[0] = int64(id*3 - n)
		if d > 1 && i%5 == 4 {
			copy(p[1:], l[i-1][1:])
		}
		l = append(l, p)
	}
	return l
}

// trees tells trees of both kinds, built and grown ones: of no rows, of one node and of many levels, with ids that are alike and with ones that aren't, of few numbers, of the least and the greatest ones, and of all kinds.
func trees(t *testing.T, random *rand.Rand, d int) []*tree {
	t.Helper()
	var l []*tree
	for i, n := range []int{0, 1, 2, 4, 5, 9, 17, 40, 90} {
		mixed := append(slices.Clone(wide), random.Int63(), -random.Int63(), random.Int63n(1<<20), 5, 6, 7)
		for _, of := range kinds {
			l = append(l, built(t, of, d, numbered(random, d, n, narrow)), grown(t, random, of, d, numbered(random, d, n, mixed)))
			l = append(l, built(t, of, d, points(random, d, n, [][]int64{wide, mixed}[i%2])), grown(t, random, of, d, points(random, d, n, narrow)))
		}
	}
	return l
}

// span tells the least box of two points.
func span(p, q api.Row) api.Box {
	b := api.Box{Lo: slices.Clone(p), Hi: slices.Clone(p)}
	for i, x := range q {
		b.Lo[i], b.Hi[i] = min(b.Lo[i], x), max(b.Hi[i], x)
	}
	return b
}

// all tells a point of so many numbers that are alike.
func all(d int, x int64) api.Row { return slices.Repeat(api.Row{x}, d) }

// whole tells the box of all points.
func whole(d int) api.Box { return api.Box{Lo: all(d, least), Hi: all(d, greatest)} }

// boxes tells boxes for a tree: of all points; of all its rows; of each of its rows alone, and of the points beside it; between two of its rows; thin ones, as long as may be; beside all its rows; and of chance.
func (x *tree) boxes(random *rand.Rand) []api.Box {
	d := x.d
	l := []api.Box{whole(d), span(all(d, least), all(d, -1)), span(all(d, 0), all(d, greatest)), span(all(d, -1), all(d, 0)), span(all(d, 77), all(d, 99))}
	if len(x.live) > 0 {
		l = append(l, x.kid.Box)
	}
	for range min(len(x.live), 4) {
		p, q := x.live[random.Intn(len(x.live))], x.live[random.Intn(len(x.live))]
		beside := slices.Clone(p)
		beside[random.Intn(d)] ^= 1
		l = append(l, span(p, p), span(beside, beside), span(p, q), span(p, some(random, d, wide)))
	}
	for range 4 {
		p, q := some(random, d, append(narrow, wide...)), some(random, d, append(narrow, wide...))
		l = append(l, span(p, q), span(some(random, d, narrow), some(random, d, narrow)))
		side, plate := random.Intn(d), whole(d)
		plate.Lo[side], plate.Hi[side] = p[side], p[side]
		l = append(l, plate)
	}
	return l
}

// orders tells all orders of d dimensions, those by nearness from some points.
func orders(random *rand.Rand, d int) []api.Order {
	l := []api.Order{{}, {Kind: api.Fall}}
	for col := 1; col < d; col++ {
		l = append(l, api.Order{Kind: api.Rising, Col: col}, api.Order{Kind: api.Fall, Col: col})
	}
	if d > 1 {
		for _, of := range [][]int64{narrow, narrow, wide} {
			l = append(l, api.Order{Kind: api.Near, At: some(random, d-1, of)})
		}
	}
	return l
}

// queries tells queries for a tree: by each of its boxes, some orders and Limits, and counting ones.
func (x *tree) queries(random *rand.Rand) []api.Query {
	var l []api.Query
	limits := []int{-1, 0, 1, 2, 3, len(x.live) / 2, max(len(x.live)-1, 0), len(x.live), len(x.live) + 1, 1000}
	by := orders(random, x.d)
	for _, b := range x.boxes(random) {
		l = append(l, api.Query{Box: b, Count: true})
		for range 4 {
			l = append(l, api.Query{Box: b, Order: by[random.Intn(len(by))], Limit: limits[random.Intn(len(limits))]})
		}
	}
	return l
}

func alike(a, b []api.Row) bool {
	return slices.EqualFunc(a, b, func(p, q api.Row) bool { return slices.Equal(p, q) })
}

// same tells whether two answers are the same.
func same(a, b api.Answer) bool { return a.Count == b.Count && alike(a.Rows, b.Rows) }

// nothingPut holds against a store that it has the same pages as it had.
func nothingPut(t *testing.T, s *page.Store, was []api.Digest) {
	t.Helper()
	if !slices.Equal(s.Sums(), was) {
		t.Errorf("%d pages, there were %d", s.Len(), len(was))
	}
}
