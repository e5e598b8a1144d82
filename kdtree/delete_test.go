package kdtree_test

import (
	"math/rand"
	"slices"
	"testing"

	"indenture/api"
	"indenture/kdtree"
	"indenture/node"
	"indenture/page"
)

// P11.3: the Fork of the row is a tombstone, and stays where it is; a row less, and the tree is laid anew, of its live rows.
func TestDeleteKnown(t *testing.T) {
	s := page.New()
	k, _ := kdtree.Build(s, []api.Row{{1}, {2}, {3}}, 1)
	k, err := kdtree.Delete(s, k, api.Row{2}, 1)
	if err != api.OK {
		t.Fatalf("error %d", err)
	}
	is(t, s, k, &tree{row: api.Row{2}, kids: [2]*tree{bare(1), bare(3)}}, 1) // 2 twice is 4, which isn't less than 3
	k, err = kdtree.Delete(s, k, api.Row{1}, 1)
	if err != api.OK {
		t.Fatalf("error %d", err)
	}
	is(t, s, k, bare(3), 1) // 1 twice is less than 3
	k, err = kdtree.Delete(s, k, api.Row{3}, 1)
	if err != api.OK || !node.Empty(k) {
		t.Fatalf("%+v, error %d", k, err)
	}
	is(t, s, k, nil, 1)
}

// P11.3: where twice the tree's Live is just its Size, tombstones stay; where it is one less, or two, they go.
func TestDeleteHalf(t *testing.T) {
	for n := 1; n <= 40; n++ {
		c := begin(1)
		rows := line(1, 0, n)
		k, err := kdtree.Build(c.store, rows, 1)
		if err != api.OK {
			t.Fatalf("error %d", err)
		}
		c.kid, c.tree = k, laid(rows, 0)
		for i, p := range rows {
			size := c.kid.Size
			c.delete(t, p, n)
			c.is(t, n, i)
			live := n - i - 1
			if 2*live >= size && c.kid.Size != size || 2*live < size && c.kid.Size != live || c.kid.Live != live {
				t.Errorf("%d rows, %d of %d: %d live of %d", n, i, size, c.kid.Live, c.kid.Size)
			}
		}
	}
}

// P11.3: a row that isn't there, one that was deleted before, whether its tombstone still is there or not, and each one of the empty tree: ErrNone; nothing is put.
func TestDeleteNone(t *testing.T) {
	random := rand.New(rand.NewSource(1))
	for d := 1; d <= 8; d++ {
		c := begin(d)
		rows := points(random, d, 24, narrow)
		for _, p := range rows {
			if c.delete(t, p) {
				t.Errorf("%d was deleted from the empty tree", p)
			}
		}
		for _, p := range rows[:20] {
			c.insert(t, p)
		}
		for i, p := range rows[:20] {
			for _, q := range slices.Concat(rows[:i], rows[20:]) {
				if c.delete(t, q) {
					t.Errorf("%d was deleted, which isn't there", q)
				}
			}
			if !c.delete(t, p) {
				t.Errorf("%d was not deleted", p)
			}
		}
		if c.counts.whole < 3 || !node.Empty(c.kid) {
			t.Errorf("%d whole trees, %+v", c.counts.whole, c.kid)
		}
	}
}

// P11.3: points of each dimension, deleted in many orders: each tree of the chapter's words.
func TestDeleteInOrders(t *testing.T) {
	random := rand.New(rand.NewSource(2))
	for d := 1; d <= 8; d++ {
		rows := points(random, d, 40, narrow)
		for i, l := range orders(random, rows) {
			c := begin(d)
			for _, p := range rows {
				c.insert(t, p)
			}
			for j, p := range l {
				c.delete(t, p, d, i)
				if j%5 == 0 {
					c.is(t, d, i, j)
					has(t, c.store, c.kid, c.tree, d, rows, d, i, j)
				}
			}
			if !node.Empty(c.kid) {
				t.Errorf("%+v", c.kid)
			}
		}
	}
}

// P11.2, P11.3: all scripts of six steps with three rows: each step's tree of the chapter's words, each error too.
func TestAllScripts(t *testing.T) {
	rows := []api.Row{{0, 1}, {1, 0}, {1, 1}}
	steps := 0
	var from func(c script, left int)
	from = func(c script, left int) {
		if left == 0 {
			return
		}
		for i := range 2 * len(rows) {
			next := c
			if i < len(rows) {
				next.insert(t, rows[i])
			} else {
				next.delete(t, rows[i-len(rows)])
			}
			steps++
			from(next, left-1)
		}
		c.is(t, left)
	}
	from(*begin(2), 6)
	if steps < 6*6*6*6*6*6 {
		t.Errorf("%d steps", steps)
	}
}

// P11.2, P11.3: points that have too few numbers or too many, and dimensions that there aren't: ErrArg, whatever the tree is; nothing is put.
func TestChangesWrong(t *testing.T) {
	random := rand.New(rand.NewSource(3))
	for d := 1; d <= 8; d++ {
		s := page.New()
		k, err := kdtree.Build(s, points(random, d, 5, narrow), d)
		if err != api.OK {
			t.Fatalf("error %d", err)
		}
		for _, other := range dims {
			for _, numbers := range []int{0, 1, d - 1, d, d + 1, 8, 9, 300} {
				if other == d && numbers == d {
					continue
				}
				want := api.ErrArg
				if other >= 1 && other <= 8 && numbers == other {
					want = api.ErrForm // it's no tree of that dimension
				}
				p, pages := make(api.Row, numbers), s.Len()
				for _, whose := range []api.Kid{k, {Size: 1}} {
					more, err := kdtree.Insert(s, whose, p, other)
					refused(t, s, pages, more, err, want, "Insert", d, other, numbers)
					less, err := kdtree.Delete(s, whose, p, other)
					refused(t, s, pages, less, err, want, "Delete", d, other, numbers)
				}
				if want == api.ErrArg {
					more, err := kdtree.Insert(s, api.Kid{}, p, other)
					refused(t, s, pages, more, err, want, "Insert", d, other, numbers)
					less, err := kdtree.Delete(s, api.Kid{}, p, other)
					refused(t, s, pages, less, err, want, "Delete", d, other, numbers)
				}
			}
		}
	}
}
