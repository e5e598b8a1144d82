package zbtree_test

import (
	"math/rand"
	"testing"

	"indenture/api"
	"indenture/node"
	"indenture/page"
	"indenture/zbtree"
)

// P12.3: the chapter's example, and the errors of rows that aren't there.
func TestDeleteKnown(t *testing.T) {
	s := page.New()
	k := known([]int64{1, 2, 3}, []int64{4, 5}).put(t, s)
	less, err := zbtree.Delete(s, k, api.Row{5}, 1)
	if err != api.OK {
		t.Fatalf("error %d", err)
	}
	is(t, s, less, known([]int64{1, 2, 3, 4}), 1)
	for _, x := range []int64{0, 5, 6} {
		none, err := zbtree.Delete(s, less, api.Row{x}, 1)
		refused(t, s, s.Len(), none, err, api.ErrNone, x)
	}
}

// P12.3: which neighbour a node with one item is taken together with, and what becomes of both: one node of at most four items, or three and two.
func TestDeleteNeighbours(t *testing.T) {
	for i, c := range []struct {
		from *tree
		row  int64
		want *tree
	}{
		{known([]int64{1, 2, 3}, []int64{4, 5, 6}), 2, known([]int64{1, 3}, []int64{4, 5, 6})},
		{known([]int64{1, 2}, []int64{3, 4}), 1, known([]int64{2, 3, 4})},
		{known([]int64{1, 2}, []int64{3, 4}), 4, known([]int64{1, 2, 3})},
		{known([]int64{1, 2}, []int64{3, 4, 5}), 2, known([]int64{1, 3, 4, 5})},
		{known([]int64{1, 2}, []int64{3, 4, 5, 6}), 1, known([]int64{2, 3, 4}, []int64{5, 6})},
		{known([]int64{1, 2}, []int64{3, 4, 5, 6}), 2, known([]int64{1, 3, 4}, []int64{5, 6})},
		{known([]int64{1, 2, 3, 4}, []int64{5, 6}), 5, known([]int64{1, 2, 3}, []int64{4, 6})},
		{known([]int64{1, 2, 3, 4}, []int64{5, 6}), 6, known([]int64{1, 2, 3}, []int64{4, 5})},
		{known([]int64{1, 2}, []int64{3, 4}, []int64{5, 6}), 4, known([]int64{1, 2, 3}, []int64{5, 6})},                      // the left one, where there are two
		{known([]int64{1, 2, 3, 4}, []int64{5, 6}, []int64{7, 8}), 5, known([]int64{1, 2, 3}, []int64{4, 6}, []int64{7, 8})}, // the left one, though the right one has less
		{known([]int64{1, 2}, []int64{3, 4}, []int64{5, 6, 7, 8}), 3, known([]int64{1, 2, 4}, []int64{5, 6, 7, 8})},
		{known([]int64{1, 2}, []int64{3, 4}, []int64{5, 6, 7}), 1, known([]int64{2, 3, 4}, []int64{5, 6, 7})},
		{known([]int64{1}), 1, nil},
		{known([]int64{1, 2}), 1, known([]int64{2})}, // the root may have one
		{known([]int64{1, 2}), 2, known([]int64{1})},
	} {
		s := page.New()
		k, err := zbtree.Delete(s, c.from.put(t, s), api.Row{c.row}, 1)
		if err != api.OK {
			t.Fatalf("%d: error %d", i, err)
		}
		is(t, s, k, c.want, 1, i)
	}
}

// P12.3: an Inner that has one kid left is taken together with its neighbour, too, and the root that has one left gives way to it.
func TestDeleteInners(t *testing.T) {
	two, other, far := []int64{1, 2}, []int64{3, 4}, []int64{8, 9}
	left := known(two, other)
	for i, c := range []struct {
		right *tree
		row   int64
		want  *tree
	}{
		{known([]int64{5, 6}, far), 5, known(two, other, []int64{6, 8, 9})},
		{known([]int64{5, 6}, []int64{7}, far), 5, &tree{kids: []*tree{left, known([]int64{6, 7}, far)}}}, // a Leaf of one row: nobody's tree
		{known([]int64{5, 6}, far, []int64{10, 11}), 6, &tree{kids: []*tree{left, known([]int64{5, 8, 9}, []int64{10, 11})}}},
		{known([]int64{5, 6}, far, []int64{10, 11}, []int64{12, 13}), 1, &tree{kids: []*tree{known([]int64{2, 3, 4}, []int64{5, 6}, far), known([]int64{10, 11}, []int64{12, 13})}}},
	} {
		x := &tree{kids: []*tree{left, c.right}}
		s := page.New()
		k, err := zbtree.Delete(s, x.put(t, s), api.Row{c.row}, 1)
		if err != api.OK {
			t.Fatalf("%d: error %d", i, err)
		}
		is(t, s, k, c.want, 1, i)
	}
}

// ways are all that may become of a node that has too few items.
func ways(kind string) []string {
	var l []string
	for _, side := range []string{"left", "right"} {
		for _, n := range []string{"3", "4", "5"} {
			l = append(l, kind+" with its "+side+" neighbour "+n)
		}
	}
	return l
}

// P12.3: each tree of two levels that may be, without each of its rows: the tree of the chapter's words.
func TestDeleteFromEachShape(t *testing.T) {
	counts := newTally()
	for _, x := range shapes() {
		for _, p := range x.lives() {
			c := from(t, x, counts)
			c.delete(t, p, p)
			c.is(t, p)
			if c.delete(t, p, p) {
				t.Errorf("%d was deleted twice", p)
			}
		}
	}
	counts.least(t, 10, ways("leaf")...)
	counts.least(t, 8, "leaf just enough", "root gone")
}

// P12.3: trees of chance of three levels and of four, of points of each dimension, without many rows: the tree of the chapter's words.
func TestDeleteFromShapes(t *testing.T) {
	random := rand.New(rand.NewSource(1))
	counts := newTally()
	for i := range 200 {
		d, next := 1+i%8, int64(0)
		x := shape(random, d, 3+i%2, &next)
		l := x.lives()
		for range 20 {
			p := l[random.Intn(len(l))]
			c := from(t, x, counts)
			c.delete(t, p, d, p)
			c.is(t, d, p)
		}
	}
	counts.least(t, 10, ways("leaf")...)
	counts.least(t, 10, ways("inner")...)
	counts.least(t, 10, "leaf just enough", "inner just enough", "root gone")
}

// P12.3: a row that isn't there, and each one of the empty tree: ErrNone; nothing is put.
func TestDeleteNone(t *testing.T) {
	random := rand.New(rand.NewSource(2))
	for d := 1; d <= 8; d++ {
		c := begin(d)
		rows := points(random, d, 24, narrow)
		for _, p := range rows {
			if c.delete(t, p) {
				t.Errorf("%d was deleted from the empty tree", p)
			}
		}
		for _, p := range rows[:18] {
			c.insert(t, p)
		}
		for i, p := range rows[:18] {
			for _, q := range append(append([]api.Row{}, rows[:i]...), rows[18:]...) {
				if c.delete(t, q) {
					t.Errorf("%d was deleted, which isn't there", q)
				}
			}
			if !c.delete(t, p) {
				t.Errorf("%d was not deleted", p)
			}
		}
		if !node.Empty(c.kid) {
			t.Errorf("%+v", c.kid)
		}
	}
}

// P12.3: rows that go in each order that there is of few: each tree of the chapter's words.
func TestDeleteInEachOrder(t *testing.T) {
	rows := []api.Row{{0, 0}, {0, 1}, {1, 0}, {1, 1}, {0, 2}, {2, 0}, {2, 2}}
	counts := newTally()
	for l := range permutations(rows) {
		c := from(t, laid(rows), counts)
		for _, p := range l {
			c.delete(t, p, l)
		}
		c.is(t, l)
	}
	if counts.counts["last row"] != 5040 || counts.counts["root gone"] != 5040 {
		t.Errorf("%v", counts.counts)
	}
}

// P12.3: points of each dimension that go in many orders, of trees that grew and of laid ones, till none is left: each tree of the chapter's words.
func TestDeleteInOrders(t *testing.T) {
	random := rand.New(rand.NewSource(3))
	counts := newTally()
	for d := 1; d <= 8; d++ {
		rows := points(random, d, 75, narrow)
		for i, l := range orders(random, rows) {
			for _, grown := range []bool{false, true} {
				c := from(t, laid(rows), counts)
				if grown {
					c = begin(d)
					c.tally = counts
					for _, p := range rows {
						c.insert(t, p)
					}
				}
				for j, p := range l {
					c.delete(t, p, d, i)
					if j%5 == 0 {
						c.is(t, d, i, j)
						has(t, c.store, c.kid, c.tree, d, rows, d, i, j)
					}
				}
				if !node.Empty(c.kid) {
					t.Errorf("%+v", c.kid)
				}
			}
		}
	}
	counts.least(t, 80, "last row", "root gone")
	counts.least(t, 10, ways("leaf")...)
}

// P12.3: the first row of each Leaf goes, and the last one: its Key is told to the root, where it is the first Leaf's.
func TestDeleteEnds(t *testing.T) {
	counts := newTally()
	for n := 5; n <= 70; n++ {
		x := laid(line(2, 0, n))
		for _, y := range x.all() {
			if !y.leaf() {
				continue
			}
			for _, p := range []api.Row{y.rows[0], y.rows[len(y.rows)-1]} {
				c := from(t, x, counts)
				c.delete(t, p, n)
				c.is(t, n, p)
			}
		}
	}
	counts.least(t, 100, "leaf just enough")
}

// P12.2, P12.3: a row that comes and goes, or goes and comes, in each place: the tree of the chapter's words.
func TestThereAndBack(t *testing.T) {
	counts := newTally()
	for n := range 30 {
		rows := line(1, 0, n)
		for i := range rows {
			rows[i][0] *= 10
		}
		for p := int64(-5); p < int64(n)*10; p += 5 {
			c := begin(1)
			if n > 0 {
				c = from(t, laid(rows), counts)
			}
			c.insert(t, api.Row{p}, n, p)
			c.is(t, n, p)
			c.delete(t, api.Row{p}, n, p)
			c.is(t, n, p)
			c.insert(t, api.Row{p}, n, p)
			c.is(t, n, p)
		}
	}
}
