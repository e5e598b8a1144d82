package kdtree_test

import (
	"math"
	"math/rand"
	"slices"
	"testing"

	"indenture/api"
	"indenture/kdtree"
	"indenture/node"
	"indenture/page"
)

// dims: all dimensions that there are, and some on both sides that there aren't.
var dims = []int{math.MinInt, -1, 0, 1, 2, 3, 4, 5, 6, 7, 8, 9, 10, 255, 256, math.MaxInt}

// tree is a Fork with its trees by the chapter's words; nil is the empty tree. No tree turns once it was made.
type tree struct {
	row  api.Row
	live bool
	kids [2]*tree
	said *api.Kid // what its node says, once that was asked
}

// ahead: is a point ahead of another one in the order at a depth, by the chapter's words.
func ahead(p, q api.Row, depth int) bool {
	at := depth % len(p)
	if p[at] != q[at] {
		return p[at] < q[at]
	}
	for i := range p {
		if p[i] != q[i] {
			return p[i] < q[i]
		}
	}
	return false
}

// laid tells the tree that is laid of rows, no two of which are the same: the Fork's row is the one of which half of all are ahead.
func laid(rows []api.Row, depth int) *tree {
	for _, r := range rows {
		var before, behind []api.Row
		for _, q := range rows {
			if ahead(q, r, depth) {
				before = append(before, q)
			} else if ahead(r, q, depth) {
				behind = append(behind, q)
			}
		}
		if len(before) == len(rows)/2 {
			return &tree{row: r, live: true, kids: [2]*tree{laid(before, depth+1), laid(behind, depth+1)}}
		}
	}
	return nil
}

func (x *tree) size() int {
	if x == nil {
		return 0
	}
	return x.kids[0].size() + x.kids[1].size() + 1
}

func (x *tree) height() int {
	if x == nil {
		return 0
	}
	return max(x.kids[0].height(), x.kids[1].height()) + 1
}

// lives tells all live rows.
func (x *tree) lives() []api.Row {
	if x == nil {
		return nil
	}
	l := slices.Concat(x.kids[0].lives(), x.kids[1].lives())
	if x.live {
		l = append(l, x.row)
	}
	return l
}

// entry tells the Fork of a row: nil, if there is none.
func (x *tree) entry(p api.Row) *tree {
	w := x.way(p)
	if len(w) == 0 || !slices.Equal(w[len(w)-1].row, p) {
		return nil
	}
	return w[len(w)-1]
}

// way tells all Forks from the root to that of a row, or to where it would come.
func (x *tree) way(p api.Row) []*tree {
	var w []*tree
	for x != nil {
		w = append(w, x)
		if slices.Equal(x.row, p) {
			return w
		}
		x = x.kids[side(p, x.row, len(w)-1)]
	}
	return w
}

func side(p, q api.Row, depth int) int {
	if ahead(p, q, depth) {
		return 0
	}
	return 1
}

// heaviness tells by how many entries the greater one of its kids has more than a Fork may have that isn't heavy.
func (x *tree) heaviness() int {
	return max(x.kids[0].size(), x.kids[1].size()) - (2*x.size()/3 + 1)
}

// tally counts what happened: Forks that were heavy, and just not heavy, by their depths, and trees that were laid anew as a whole.
type tally struct {
	heavy, just [64]int
	whole       int
}

// inserted tells the tree with a row that isn't live in it; which of its Forks were heavy, and so laid anew, is told too.
func (x *tree) inserted(p api.Row, depth int, counts *tally, heavies *[]*tree) *tree {
	if x == nil {
		return &tree{row: p, live: true}
	}
	y := &tree{row: x.row, live: x.live, kids: x.kids}
	if slices.Equal(x.row, p) {
		y.live = true
	} else {
		i := side(p, x.row, depth)
		y.kids[i] = x.kids[i].inserted(p, depth+1, counts, heavies)
	}
	if h := y.heaviness(); h > 0 {
		counts.heavy[depth]++
		*heavies = append(*heavies, x)
		return laid(y.lives(), depth)
	} else if h == 0 {
		counts.just[depth]++
	}
	return y
}

// deleted tells the tree without a row that is live in it; and whether it was laid anew.
func (x *tree) deleted(p api.Row, counts *tally) (*tree, bool) {
	y := x.dead(p, 0)
	if l := y.lives(); 2*len(l) < y.size() {
		counts.whole++
		return laid(l, 0), true
	}
	return y, false
}

func (x *tree) dead(p api.Row, depth int) *tree {
	y := &tree{row: x.row, live: x.live, kids: x.kids}
	if slices.Equal(x.row, p) {
		y.live = false
		return y
	}
	i := side(p, x.row, depth)
	y.kids[i] = x.kids[i].dead(p, depth+1)
	return y
}

// node tells a Fork's node.
func (x *tree) node() api.Node {
	return api.Node{Kind: 1, Rows: []api.Entry{{Row: x.row, Live: x.live}}, Kids: []api.Kid{x.kids[0].kid(), x.kids[1].kid()}}
}

// kid tells what a tree's root says.
func (x *tree) kid() api.Kid {
	if x == nil {
		return api.Kid{}
	}
	if x.said == nil {
		k, err := node.Say(x.node(), len(x.row))
		if err != api.OK {
			panic(err)
		}
		x.said = &k
	}
	return copyKid(*x.said)
}

// all tells all Forks of a tree.
func (x *tree) all() []*tree {
	if x == nil {
		return nil
	}
	return slices.Concat([]*tree{x}, x.kids[0].all(), x.kids[1].all())
}

// put puts all nodes of a tree to a store.
func (x *tree) put(t *testing.T, s *page.Store) api.Kid {
	t.Helper()
	for _, y := range x.all() {
		if _, err := node.Put(s, y.node(), len(y.row)); err != api.OK {
			t.Fatalf("error %d", err)
		}
	}
	return x.kid()
}

// without puts all nodes of a tree to a new store, but those of some of its Forks.
func (x *tree) without(t *testing.T, missing ...*tree) *page.Store {
	t.Helper()
	s := page.New()
	x.put(t, s)
	var needed []api.Digest
	for _, sum := range s.Sums() {
		if !slices.ContainsFunc(missing, func(y *tree) bool { return y.kid().Sum == sum }) {
			needed = append(needed, sum)
		}
	}
	s.Keep(needed)
	return s
}

func copyKid(k api.Kid) api.Kid {
	k.Box = api.Box{Lo: slices.Clone(k.Box.Lo), Hi: slices.Clone(k.Box.Hi)}
	k.Key = slices.Clone(k.Key)
	return k
}

func copyRows(l []api.Row) []api.Row {
	c := slices.Clone(l)
	for i := range c {
		c[i] = slices.Clone(c[i])
	}
	return c
}

// sorted tells rows in the order of their numbers.
func sorted(l []api.Row) []api.Row {
	l = slices.Clone(l)
	slices.SortFunc(l, func(a, b api.Row) int { return slices.Compare(a, b) })
	return l
}

func alikeRows(a, b []api.Row) bool {
	return slices.EqualFunc(a, b, func(p, q api.Row) bool { return slices.Equal(p, q) })
}

// is holds against a tree in a store that it is the one of the chapter's words: what it says, all its nodes, its rows and its height. Asking puts nothing.
func is(t *testing.T, s *page.Store, k api.Kid, x *tree, d int, what ...any) {
	t.Helper()
	if !node.Same(k, x.kid()) {
		t.Fatalf("it says %+v, not %+v: %v", k, x.kid(), what)
	}
	pages := s.Len()
	for _, y := range x.all() {
		if _, err := node.Get(s, y.kid(), d); err != api.OK {
			t.Fatalf("error %d of the Fork of %d: %v", err, y.row, what)
		}
	}
	rows, err := kdtree.Rows(s, k, d)
	if want := sorted(x.lives()); !alikeRows(rows, want) || err != api.OK {
		t.Fatalf("Rows: %d, error %d, not %d: %v", rows, err, want, what)
	}
	height, err := kdtree.Height(s, k, d)
	if height != x.height() || err != api.OK {
		t.Fatalf("Height: %d, error %d, not %d: %v", height, err, x.height(), what)
	}
	if s.Len() != pages {
		t.Fatalf("asking put %d pages: %v", s.Len()-pages, what)
	}
}

// has holds against a tree whether rows are live in it.
func has(t *testing.T, s *page.Store, k api.Kid, x *tree, d int, rows []api.Row, what ...any) {
	t.Helper()
	pages := s.Len()
	for _, r := range rows {
		e := x.entry(r)
		ok, err := kdtree.Has(s, k, r, d)
		if want := e != nil && e.live; ok != want || err != api.OK {
			t.Fatalf("Has %d: %t, error %d, not %t: %v", r, ok, err, want, what)
		}
	}
	if s.Len() != pages {
		t.Fatalf("asking put %d pages: %v", s.Len()-pages, what)
	}
}

// refused holds against a call that told a kid that it was refused: nothing is told, and nothing was put since there were so many pages.
func refused(t *testing.T, s *page.Store, pages int, k api.Kid, err, want api.Errno, what ...any) {
	t.Helper()
	if err != want || !node.Empty(k) || s.Len() != pages {
		t.Errorf("%+v, error %d, not %d; %d pages, there were %d: %v", k, err, want, s.Len(), pages, what)
	}
}

// script is a tree under way: as it is in a store, and by the chapter's words.
type script struct {
	d      int
	store  *page.Store
	kid    api.Kid
	tree   *tree
	counts tally
}

func begin(d int) *script { return &script{d: d, store: page.New()} }

// insert inserts a row, whether it may be or not.
func (c *script) insert(t *testing.T, p api.Row, what ...any) bool {
	t.Helper()
	pages := c.store.Len()
	k, err := kdtree.Insert(c.store, c.kid, p, c.d)
	if e := c.tree.entry(p); e != nil && e.live {
		refused(t, c.store, pages, k, err, api.ErrDup, p, what)
		return false
	}
	x := c.tree.inserted(p, 0, &c.counts, new([]*tree))
	if err != api.OK || !node.Same(k, x.kid()) {
		t.Fatalf("Insert %d: %+v, error %d, not %+v: %v", p, k, err, x.kid(), what)
	}
	c.kid, c.tree = k, x
	return true
}

// delete deletes a row, whether it is there or not.
func (c *script) delete(t *testing.T, p api.Row, what ...any) bool {
	t.Helper()
	pages := c.store.Len()
	k, err := kdtree.Delete(c.store, c.kid, p, c.d)
	if e := c.tree.entry(p); e == nil || !e.live {
		refused(t, c.store, pages, k, err, api.ErrNone, p, what)
		return false
	}
	x, _ := c.tree.deleted(p, &c.counts)
	if err != api.OK || !node.Same(k, x.kid()) {
		t.Fatalf("Delete %d: %+v, error %d, not %+v: %v", p, k, err, x.kid(), what)
	}
	c.kid, c.tree = k, x
	return true
}

// is holds against the tree that it is the one of the chapter's words.
func (c *script) is(t *testing.T, what ...any) {
	t.Helper()
	is(t, c.store, c.kid, c.tree, c.d, what...)
}

// numbers of a wide and of a narrow kind.
var (
	narrow = []int64{-1, 0, 1, 2}
	wide   = []int64{math.MinInt64, math.MinInt64 + 1, -1, 0, 1, math.MaxInt64 - 1, math.MaxInt64}
)

// point tells a point of some numbers, so that many points are alike in some of them.
func point(random *rand.Rand, d int, of []int64) api.Row {
	p := make(api.Row, d)
	for i := range p {
		p[i] = of[random.Intn(len(of))]
	}
	return p
}

// points tells so many points, no two of which are the same: of few numbers, as long as these are enough, in an order of chance.
func points(random *rand.Rand, d, n int, of []int64) []api.Row {
	var l []api.Row
	for tries := 0; len(l) < n; tries++ {
		p := point(random, d, of)
		if tries > 2*n {
			p[random.Intn(d)] = int64(tries)
		}
		if !slices.ContainsFunc(l, func(q api.Row) bool { return slices.Equal(p, q) }) {
			l = append(l, p)
		}
	}
	return l
}

// line tells the points from (from, 0, ..) on, so many, rising.
func line(d, from, n int) []api.Row {
	var l []api.Row
	for i := range n {
		p := make(api.Row, d)
		p[0] = int64(from + i)
		l = append(l, p)
	}
	return l
}
