package zbtree_test

import (
	"math"
	"math/rand"
	"slices"
	"testing"

	"indenture/api"
	"indenture/node"
	"indenture/page"
	"indenture/zbtree"
)

// dims: all dimensions that there are, and some on both sides that there aren't.
var dims = []int{math.MinInt, -1, 0, 1, 2, 3, 4, 5, 6, 7, 8, 9, 10, 255, 256, math.MaxInt}

// tree is a tree by the chapter's words: a Leaf has rows, an Inner has kids; nil is the empty tree. No tree turns once it was made.
type tree struct {
	rows []api.Row
	kids []*tree
	said *api.Kid // what its root says, once that was asked
}

// ahead: does a point's code stand ahead of that of another one, bit by bit?
func ahead(p, q api.Row) bool {
	for bit := 63; bit >= 0; bit-- {
		for i := range p {
			a, b := (uint64(p[i])+1<<63)>>bit&1, (uint64(q[i])+1<<63)>>bit&1
			if a != b {
				return a < b
			}
		}
	}
	return false
}

// sorted tells rows by their codes.
func sorted(l []api.Row) []api.Row {
	l = slices.Clone(l)
	slices.SortFunc(l, func(a, b api.Row) int { return one(ahead(b, a)) - one(ahead(a, b)) })
	return l
}

func one(is bool) int {
	if is {
		return 1
	}
	return 0
}

// sizes tells how many items the groups have into which n of them are cut.
func sizes(n int) []int {
	g := 1
	for 4*g < n {
		g++
	}
	l := make([]int, g)
	for i := range l {
		l[i] = n/g + one(i < n%g)
	}
	return l
}

// cuts cuts a list into groups.
func cuts[T any](l []T) [][]T {
	var groups [][]T
	for _, n := range sizes(len(l)) {
		groups = append(groups, l[:n:n])
		l = l[n:]
	}
	return groups
}

// laid tells the tree that is laid of rows.
func laid(rows []api.Row) *tree {
	if len(rows) == 0 {
		return nil
	}
	var level []*tree
	for _, group := range cuts(sorted(rows)) {
		level = append(level, &tree{rows: group})
	}
	for len(level) > 1 {
		var above []*tree
		for _, group := range cuts(level) {
			above = append(above, &tree{kids: group})
		}
		level = above
	}
	return level[0]
}

func (x *tree) leaf() bool { return x.kids == nil }

// name tells how a node of a tree's kind is called in a tally.
func (x *tree) name() string {
	if x.leaf() {
		return "leaf "
	}
	return "inner "
}

func (x *tree) items() int { return len(x.rows) + len(x.kids) }

// all tells all nodes of a tree, as the trees that are below them.
func (x *tree) all() []*tree {
	if x == nil {
		return nil
	}
	l := []*tree{x}
	for _, y := range x.kids {
		l = append(l, y.all()...)
	}
	return l
}

func (x *tree) lives() []api.Row {
	var l []api.Row
	for _, y := range x.all() {
		l = append(l, y.rows...)
	}
	return l
}

// first tells a tree's first row.
func (x *tree) first() api.Row {
	if x.leaf() {
		return x.rows[0]
	}
	return x.kids[0].first()
}

func (x *tree) height() int {
	if x == nil {
		return 0
	}
	if x.leaf() {
		return 1
	}
	return x.kids[0].height() + 1
}

func (x *tree) has(p api.Row) bool {
	return slices.ContainsFunc(x.lives(), func(q api.Row) bool { return slices.Equal(p, q) })
}

// side tells to which kid the way to a row goes on.
func (x *tree) side(p api.Row) int {
	side := 0
	for i, y := range x.kids {
		if !ahead(p, y.first()) {
			side = i
		}
	}
	return side
}

// way tells all nodes on the way to a row.
func (x *tree) way(p api.Row) []*tree {
	switch {
	case x == nil:
		return nil
	case x.leaf():
		return []*tree{x}
	}
	return append([]*tree{x}, x.kids[x.side(p)].way(p)...)
}

// tally counts what happened, and tells which neighbours were needed for the last deletion.
type tally struct {
	counts map[string]int
	met    []*tree
}

func newTally() *tally { return &tally{counts: map[string]int{}} }

func (c *tally) count(what string) { c.counts[what]++ }

// least holds against a tally that all of some things happened so often.
func (c *tally) least(t *testing.T, often int, what ...string) {
	t.Helper()
	for _, w := range what {
		if c.counts[w] < often {
			t.Errorf("%s: %d times", w, c.counts[w])
		}
	}
}

// halves tells a node of which there may be too many items as one that may be, or as two.
func (x *tree) halves() []*tree {
	if x.items() <= 4 {
		return []*tree{x}
	}
	var l []*tree
	for _, rows := range cuts(x.rows) {
		l = append(l, &tree{rows: rows})
	}
	if x.leaf() {
		return l
	}
	l = nil
	for _, kids := range cuts(x.kids) {
		l = append(l, &tree{kids: kids})
	}
	return l
}

// inserted tells the tree with a row that isn't in it.
func (x *tree) inserted(p api.Row, c *tally) *tree {
	if x == nil {
		return &tree{rows: []api.Row{p}}
	}
	l := x.with(p, c)
	if len(l) == 1 {
		return l[0]
	}
	c.count("root cut")
	return &tree{kids: l}
}

// with tells what stands in a node's place when a row came to its tree: one node, or two.
func (x *tree) with(p api.Row, c *tally) []*tree {
	y := &tree{rows: sorted(append(slices.Clone(x.rows), p))}
	if !x.leaf() {
		i := x.side(p)
		if i == 0 && ahead(p, x.first()) {
			c.count("ahead of all")
		}
		y = &tree{kids: slices.Concat(x.kids[:i], x.kids[i].with(p, c), x.kids[i+1:])}
	}
	switch y.items() {
	case 4:
		c.count(y.name() + "full")
	case 5:
		c.count(y.name() + "cut")
	}
	return y.halves()
}

// deleted tells the tree without a row that is in it.
func (x *tree) deleted(p api.Row, c *tally) *tree {
	c.met = nil
	y := x.without(p, c)
	switch {
	case y.items() == 0:
		c.count("last row")
		return nil
	case len(y.kids) == 1:
		c.count("root gone")
		return y.kids[0]
	}
	return y
}

// without tells a node behind a deletion below it: it may have too few items.
func (x *tree) without(p api.Row, c *tally) *tree {
	if x.leaf() {
		return &tree{rows: slices.DeleteFunc(slices.Clone(x.rows), func(q api.Row) bool { return slices.Equal(p, q) })}
	}
	i := x.side(p)
	kids := slices.Clone(x.kids)
	kids[i] = kids[i].without(p, c)
	if kids[i].items() == 2 {
		c.count(kids[i].name() + "just enough")
	}
	if kids[i].items() >= 2 {
		return &tree{kids: kids}
	}
	how := kids[i].name() + "with its left neighbour "
	from, neighbour := i-1, i-1
	if i == 0 {
		how = kids[i].name() + "with its right neighbour "
		from, neighbour = 0, 1
	}
	c.met = append(c.met, kids[neighbour])
	both := &tree{rows: slices.Concat(kids[from].rows, kids[from+1].rows), kids: slices.Concat(kids[from].kids, kids[from+1].kids)}
	c.count(how + string(rune('0'+both.items())))
	return &tree{kids: slices.Concat(kids[:from], both.halves(), kids[from+2:])}
}

// node tells a tree's root.
func (x *tree) node() api.Node {
	n := api.Node{Kind: 2}
	for _, r := range x.rows {
		n.Rows = append(n.Rows, api.Entry{Row: r, Live: true})
	}
	for _, y := range x.kids {
		n.Kind = 3
		n.Kids = append(n.Kids, y.kid())
	}
	return n
}

// dims tells how many numbers a tree's points have.
func (x *tree) dims() int { return len(x.first()) }

// kid tells what a tree's root says.
func (x *tree) kid() api.Kid {
	if x == nil {
		return api.Kid{}
	}
	if x.said == nil {
		k, err := node.Say(x.node(), x.dims())
		if err != api.OK {
			panic(err)
		}
		x.said = &k
	}
	return copyKid(*x.said)
}

// put puts all nodes of a tree to a store.
func (x *tree) put(t *testing.T, s *page.Store) api.Kid {
	t.Helper()
	for _, y := range x.all() {
		if _, err := node.Put(s, y.node(), y.dims()); err != api.OK {
			t.Fatalf("error %d", err)
		}
	}
	return x.kid()
}

// storeWithout tells a new store with all nodes of a tree, but some.
func (x *tree) storeWithout(t *testing.T, missing ...*tree) *page.Store {
	t.Helper()
	s := page.New()
	x.put(t, s)
	var needed []api.Digest
	for _, sum := range s.Sums() {
		if !slices.ContainsFunc(missing, func(y *tree) bool { return y.kid().Sum == sum }) {
			needed = append(needed, sum)
		}
	}
	s.Keep(needed)
	return s
}

func copyKid(k api.Kid) api.Kid {
	k.Box = api.Box{Lo: slices.Clone(k.Box.Lo), Hi: slices.Clone(k.Box.Hi)}
	k.Key = slices.Clone(k.Key)
	return k
}

func copyRows(l []api.Row) []api.Row {
	c := slices.Clone(l)
	for i := range c {
		c[i] = slices.Clone(c[i])
	}
	return c
}

func alikeRows(a, b []api.Row) bool {
	return slices.EqualFunc(a, b, func(p, q api.Row) bool { return slices.Equal(p, q) })
}

// says holds against a tree what its root must say of its rows: how many they are, the first one, and their box.
func says(t *testing.T, k api.Kid, rows []api.Row, what ...any) {
	t.Helper()
	if len(rows) == 0 {
		if !node.Empty(k) {
			t.Fatalf("%+v of no rows: %v", k, what)
		}
		return
	}
	lo, hi := slices.Clone(rows[0]), slices.Clone(rows[0])
	for _, r := range rows {
		for i, x := range r {
			lo[i], hi[i] = min(lo[i], x), max(hi[i], x)
		}
	}
	if k.Live != len(rows) || k.Size != len(rows) || !slices.Equal(k.Key, rows[0]) || !slices.Equal(k.Box.Lo, lo) || !slices.Equal(k.Box.Hi, hi) {
		t.Fatalf("%+v of %d: %v", k, rows, what)
	}
}

// is holds against a tree in a store that it is the one of the chapter's words: what it says, all its nodes, its rows and its height. Asking puts nothing.
func is(t *testing.T, s *page.Store, k api.Kid, x *tree, d int, what ...any) {
	t.Helper()
	if !node.Same(k, x.kid()) {
		t.Fatalf("it says %+v, not %+v: %v", k, x.kid(), what)
	}
	want := x.lives()
	says(t, k, want, what...)
	pages := s.Len()
	for _, y := range x.all() {
		if _, err := node.Get(s, y.kid(), d); err != api.OK {
			t.Fatalf("error %d of the node of %d: %v", err, y.lives(), what)
		}
	}
	rows, err := zbtree.Rows(s, k, d)
	if !alikeRows(rows, want) || err != api.OK {
		t.Fatalf("Rows: %d, error %d, not %d: %v", rows, err, want, what)
	}
	height, err := zbtree.Height(s, k, d)
	if height != x.height() || err != api.OK {
		t.Fatalf("Height: %d, error %d, not %d: %v", height, err, x.height(), what)
	}
	if s.Len() != pages {
		t.Fatalf("asking put %d pages: %v", s.Len()-pages, what)
	}
}

// has holds against a tree whether rows are in it.
func has(t *testing.T, s *page.Store, k api.Kid, x *tree, d int, rows []api.Row, what ...any) {
	t.Helper()
	pages := s.Len()
	for _, r := range rows {
		if ok, err := zbtree.Has(s, k, r, d); ok != x.has(r) || err != api.OK {
			t.Fatalf("Has %d: %t, error %d, not %t: %v", r, ok, err, x.has(r), what)
		}
	}
	if s.Len() != pages {
		t.Fatalf("asking put %d pages: %v", s.Len()-pages, what)
	}
}

// refused holds against a call that told a kid that it was refused: nothing is told, and nothing was put since there were so many pages.
func refused(t *testing.T, s *page.Store, pages int, k api.Kid, err, want api.Errno, what ...any) {
	t.Helper()
	if err != want || !node.Empty(k) || s.Len() != pages {
		t.Errorf("%+v, error %d, not %d; %d pages, there were %d: %v", k, err, want, s.Len(), pages, what)
	}
}

// script is a tree under way: as it is in a store, and by the chapter's words.
type script struct {
	d     int
	store *page.Store
	kid   api.Kid
	tree  *tree
	*tally
}

func begin(d int) *script { return &script{d: d, store: page.New(), tally: newTally()} }

// from is a script that goes on from a tree.
func from(t *testing.T, x *tree, c *tally) *script {
	t.Helper()
	s := page.New()
	return &script{d: x.dims(), store: s, kid: x.put(t, s), tree: x, tally: c}
}

// insert inserts a row, whether it may be or not.
func (c *script) insert(t *testing.T, p api.Row, what ...any) bool {
	t.Helper()
	pages := c.store.Len()
	k, err := zbtree.Insert(c.store, c.kid, p, c.d)
	if c.tree.has(p) {
		refused(t, c.store, pages, k, err, api.ErrDup, p, what)
		return false
	}
	x := c.tree.inserted(p, c.tally)
	if err != api.OK || !node.Same(k, x.kid()) {
		t.Fatalf("Insert %d: %+v, error %d, not %+v: %v", p, k, err, x.kid(), what)
	}
	c.kid, c.tree = k, x
	return true
}

// delete deletes a row, whether it is there or not.
func (c *script) delete(t *testing.T, p api.Row, what ...any) bool {
	t.Helper()
	pages := c.store.Len()
	k, err := zbtree.Delete(c.store, c.kid, p, c.d)
	if !c.tree.has(p) {
		refused(t, c.store, pages, k, err, api.ErrNone, p, what)
		return false
	}
	x := c.tree.deleted(p, c.tally)
	if err != api.OK || !node.Same(k, x.kid()) {
		t.Fatalf("Delete %d: %+v, error %d, not %+v: %v", p, k, err, x.kid(), what)
	}
	c.kid, c.tree = k, x
	return true
}

// is holds against the tree that it is the one of the chapter's words.
func (c *script) is(t *testing.T, what ...any) {
	t.Helper()
	is(t, c.store, c.kid, c.tree, c.d, what...)
}

// numbers of a wide and of a narrow kind.
var (
	narrow = []int64{-1, 0, 1, 2}
	wide   = []int64{math.MinInt64, math.MinInt64 + 1, -1, 0, 1, math.MaxInt64 - 1, math.MaxInt64}
)

// point tells a point of some numbers, so that many points are alike in some of them.
func point(random *rand.Rand, d int, of []int64) api.Row {
	p := make(api.Row, d)
	for i := range p {
		p[i] = of[random.Intn(len(of))]
	}
	return p
}

// points tells so many points, no two of which are the same: of few numbers, as long as these are enough, in an order of chance.
func points(random *rand.Rand, d, n int, of []int64) []api.Row {
	var l []api.Row
	for tries := 0; len(l) < n; tries++ {
		p := point(random, d, of)
		if tries > 2*n {
			p[random.Intn(d)] = int64(tries)
		}
		if !slices.ContainsFunc(l, func(q api.Row) bool { return slices.Equal(p, q) }) {
			l = append(l, p)
		}
	}
	return l
}

// line tells the points of d times the number from on, of each by the next one, so many: their codes rise.
func line(d, from, n int) []api.Row {
	l := make([]api.Row, n)
	for i := range l {
		l[i] = slices.Repeat(api.Row{int64(from + i)}, d)
	}
	return l
}

// permutations tells all orders of rows.
func permutations(l []api.Row) func(yield func(l []api.Row) bool) {
	return func(yield func(l []api.Row) bool) {
		l = slices.Clone(l)
		var from func(i int) bool
		from = func(i int) bool {
			if i == len(l) {
				return yield(l)
			}
			for j := i; j < len(l); j++ {
				l[i], l[j] = l[j], l[i]
				on := from(i + 1)
				l[i], l[j] = l[j], l[i]
				if !on {
					return false
				}
			}
			return true
		}
		from(0)
	}
}

// orders tells many orders of rows: rising, falling, from both ends, from the middle, and of chance.
func orders(random *rand.Rand, rows []api.Row) [][]api.Row {
	rising := sorted(rows)
	falling := slices.Clone(rising)
	slices.Reverse(falling)
	var ends []api.Row
	for i := range rising {
		if i%2 == 0 {
			ends = append(ends, rising[i/2])
		} else {
			ends = append(ends, falling[i/2])
		}
	}
	middle := slices.Clone(ends)
	slices.Reverse(middle)
	mixed := slices.Clone(rows)
	random.Shuffle(len(mixed), func(i, j int) { mixed[i], mixed[j] = mixed[j], mixed[i] })
	return [][]api.Row{rising, falling, ends, middle, mixed}
}

// shapes tells all trees of two levels that may be, of rows of one number, ten from each other.
func shapes() []*tree {
	var l []*tree
	var more func(counts []int)
	more = func(counts []int) {
		if len(counts) >= 2 {
			l = append(l, shaped(counts))
		}
		for n := 2; n <= 4 && len(counts) < 4; n++ {
			more(append(slices.Clone(counts), n))
		}
	}
	more(nil)
	return l
}

// shaped tells an Inner of Leaves with so many rows.
func shaped(counts []int) *tree {
	x, next := &tree{}, int64(0)
	for _, n := range counts {
		y := &tree{}
		for range n {
			next += 10
			y.rows = append(y.rows, api.Row{next})
		}
		x.kids = append(x.kids, y)
	}
	return x
}

// shape tells a tree of chance of so many levels, each of whose nodes has 2 to 4 items, of rows of d numbers behind those that were told.
func shape(random *rand.Rand, d, levels int, next *int64) *tree {
	x := &tree{}
	for range 2 + random.Intn(3) {
		if levels > 1 {
			x.kids = append(x.kids, shape(random, d, levels-1, next))
		} else {
			*next += 10
			x.rows = append(x.rows, slices.Repeat(api.Row{*next}, d))
		}
	}
	return x
}
