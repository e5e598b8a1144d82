package zbtree_test

import (
	"math/rand"
	"testing"

	"indenture/api"
	"indenture/node"
	"indenture/page"
	"indenture/zbtree"
)

// known tells a tree whose Leaves have such rows, of one number; of one Leaf that itself.
func known(leaves ...[]int64) *tree {
	x := &tree{}
	for _, l := range leaves {
		y := &tree{}
		for _, n := range l {
			y.rows = append(y.rows, api.Row{n})
		}
		x.kids = append(x.kids, y)
	}
	if len(leaves) == 1 {
		return x.kids[0]
	}
	return x
}

// P12.2: the chapter's example: four in a Leaf; at the fifth one it is cut.
func TestInsertKnown(t *testing.T) {
	s := page.New()
	var k api.Kid
	for i, x := range []*tree{known([]int64{1}), known([]int64{1, 2}), known([]int64{1, 2, 3}), known([]int64{1, 2, 3, 4}), known([]int64{1, 2, 3}, []int64{4, 5})} {
		var err api.Errno
		if k, err = zbtree.Insert(s, k, api.Row{int64(i + 1)}, 1); err != api.OK {
			t.Fatalf("error %d", err)
		}
		is(t, s, k, x, 1, i)
	}
}

// P12.2: the way goes to the last kid whose Key isn't behind the row: a row between two Leaves comes to the left one, one ahead of all others to the first one.
func TestInsertSides(t *testing.T) {
	for _, c := range []struct {
		row  int64
		want *tree
	}{
		{5, known([]int64{5, 10, 20, 30}, []int64{40, 50})},
		{15, known([]int64{10, 15, 20, 30}, []int64{40, 50})},
		{35, known([]int64{10, 20, 30, 35}, []int64{40, 50})},
		{45, known([]int64{10, 20, 30}, []int64{40, 45, 50})},
		{55, known([]int64{10, 20, 30}, []int64{40, 50, 55})},
	} {
		s := page.New()
		k := known([]int64{10, 20, 30}, []int64{40, 50}).put(t, s)
		more, err := zbtree.Insert(s, k, api.Row{c.row}, 1)
		if err != api.OK {
			t.Fatalf("error %d", err)
		}
		is(t, s, more, c.want, 1, c.row)
	}
}

// P12.2: a node that has five items is cut into three and two, in its place, wherever the fifth one came, the root too.
func TestInsertCuts(t *testing.T) {
	for _, c := range []struct {
		row  int64
		want *tree
	}{
		{5, known([]int64{5, 10, 20}, []int64{30, 40})},
		{15, known([]int64{10, 15, 20}, []int64{30, 40})},
		{25, known([]int64{10, 20, 25}, []int64{30, 40})},
		{35, known([]int64{10, 20, 30}, []int64{35, 40})},
		{45, known([]int64{10, 20, 30}, []int64{40, 45})},
	} {
		s := page.New()
		k := known([]int64{10, 20, 30, 40}).put(t, s)
		more, err := zbtree.Insert(s, k, api.Row{c.row}, 1)
		if err != api.OK {
			t.Fatalf("error %d", err)
		}
		is(t, s, more, c.want, 1, c.row)
	}
	s := page.New()
	k := known([]int64{1, 2}, []int64{3, 4, 5, 6}, []int64{8, 9}).put(t, s)
	more, err := zbtree.Insert(s, k, api.Row{7}, 1)
	if err != api.OK {
		t.Fatalf("error %d", err)
	}
	is(t, s, more, known([]int64{1, 2}, []int64{3, 4, 5}, []int64{6, 7}, []int64{8, 9}), 1)
	k = known([]int64{1, 2}, []int64{3, 4}, []int64{5, 6, 8, 9}, []int64{10, 11}).put(t, s)
	if more, err = zbtree.Insert(s, k, api.Row{7}, 1); err != api.OK {
		t.Fatalf("error %d", err)
	}
	is(t, s, more, &tree{kids: []*tree{known([]int64{1, 2}, []int64{3, 4}, []int64{5, 6, 7}), known([]int64{8, 9}, []int64{10, 11})}}, 1)
}

// P12.2: a row that is there already: ErrDup, wherever it stands; nothing is put.
func TestInsertTwice(t *testing.T) {
	random := rand.New(rand.NewSource(1))
	for d := 1; d <= 8; d++ {
		c := begin(d)
		l := points(random, d, 40, narrow)
		for i, p := range l {
			c.insert(t, p)
			for _, q := range l[:i+1] {
				if c.insert(t, q) {
					t.Errorf("%d was inserted twice", q)
				}
			}
		}
		c.is(t, d)
	}
}

// P12.2: each tree of two levels that may be, and a row in each place that it has: the tree of the chapter's words.
func TestInsertIntoEachShape(t *testing.T) {
	counts := newTally()
	l := shapes()
	for _, x := range l {
		for n := int64(1); n < int64(len(x.lives())+1)*10; n += 2 {
			c := from(t, x, counts)
			c.insert(t, api.Row{n}, n)
			c.is(t, n)
		}
	}
	if len(l) != 9+27+81 {
		t.Errorf("%d trees", len(l))
	}
	counts.least(t, 100, "leaf full", "leaf cut", "inner full", "root cut", "ahead of all")
}

// P12.2: trees of chance of three levels and of four, of points of each dimension, and a row in many places: the tree of the chapter's words.
func TestInsertIntoShapes(t *testing.T) {
	random := rand.New(rand.NewSource(2))
	counts := newTally()
	for i := range 160 {
		d, next := 1+i%8, int64(0)
		x := shape(random, d, 3+i%2, &next)
		for range 20 {
			n := random.Int63n(next + 10)
			c := from(t, x, counts)
			p := line(d, int(n), 1)[0]
			p[random.Intn(d)] += random.Int63n(3)
			c.insert(t, p, d, n)
			c.is(t, d, n)
		}
	}
	counts.least(t, 30, "leaf full", "leaf cut", "inner full", "inner cut", "root cut", "ahead of all")
}

// P12.2: rows in each order that there is of few: each tree of the chapter's words.
func TestInsertInEachOrder(t *testing.T) {
	for _, rows := range [][]api.Row{
		{{1}, {2}, {3}, {4}, {5}, {6}, {7}},
		{{0, 0}, {0, 1}, {1, 0}, {1, 1}, {0, 2}, {2, 0}, {2, 2}},
		{{0, 0, 2}, {1, 1, 1}, {1, 1, 2}, {1, 2, 1}, {2, 1, 1}, {2, 2, 1}, {0, 2, 2}},
	} {
		for l := range permutations(rows) {
			c := begin(len(rows[0]))
			for _, p := range l {
				c.insert(t, p, l)
			}
			c.is(t, l)
		}
	}
}

// P12.2: rising, falling and mixed orders of codes of points of each dimension: each tree of the chapter's words.
func TestInsertInOrders(t *testing.T) {
	random := rand.New(rand.NewSource(3))
	counts := newTally()
	for d := 1; d <= 8; d++ {
		for _, rows := range [][]api.Row{points(random, d, 90, narrow), points(random, d, 90, wide), line(d, -45, 90)} {
			for i, l := range orders(random, rows) {
				c := begin(d)
				c.tally = counts
				for at, p := range l {
					c.insert(t, p, d, i)
					if at%10 == 0 {
						c.is(t, d, i, p)
					}
				}
				c.is(t, d, i)
				has(t, c.store, c.kid, c.tree, d, rows, d, i)
			}
		}
	}
	counts.least(t, 300, "leaf full", "leaf cut", "inner full", "inner cut", "root cut", "ahead of all")
}

// P12.2: a row that was deleted may come again.
func TestInsertDeleted(t *testing.T) {
	random := rand.New(rand.NewSource(4))
	for d := 1; d <= 8; d++ {
		c := begin(d)
		l := points(random, d, 30, narrow)
		for _, p := range l {
			c.insert(t, p)
		}
		for _, p := range l {
			if !c.delete(t, p) || !c.insert(t, p) || c.insert(t, p) {
				t.Errorf("%d", p)
			}
			c.is(t, p)
		}
	}
}

// P12.2, P12.3: points that have too few numbers or too many, and dimensions that there aren't: ErrArg, whatever the tree is; nothing is put.
func TestChangesWrong(t *testing.T) {
	random := rand.New(rand.NewSource(5))
	for d := 1; d <= 8; d++ {
		s := page.New()
		k, err := zbtree.Build(s, points(random, d, 9, narrow), d)
		if err != api.OK {
			t.Fatalf("error %d", err)
		}
		for _, other := range dims {
			for _, numbers := range []int{0, 1, d - 1, d, d + 1, 8, 9, 300} {
				for _, whose := range []api.Kid{k, {Size: 1}, {}} {
					changesWrong(t, s, whose, make(api.Row, numbers), other, wrong(whose, d, numbers, other), d, numbers, other)
				}
			}
		}
	}
}

// wrong tells the error of a call with a tree of points of d numbers (that of one entry is none's), asked by a point of so many numbers as one of another dimension; OK, if there is none.
func wrong(k api.Kid, d, numbers, other int) api.Errno {
	switch {
	case other < 1, other > 8, numbers != other:
		return api.ErrArg
	case node.Empty(k), k.Size > 1 && other == d:
		return api.OK
	}
	return api.ErrForm
}

func changesWrong(t *testing.T, s *page.Store, k api.Kid, p api.Row, d int, want api.Errno, what ...any) {
	t.Helper()
	if want == api.OK {
		return
	}
	pages := s.Len()
	more, err := zbtree.Insert(s, k, p, d)
	refused(t, s, pages, more, err, want, "Insert", what)
	less, err := zbtree.Delete(s, k, p, d)
	refused(t, s, pages, less, err, want, "Delete", what)
}
