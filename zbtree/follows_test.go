package zbtree_test

import (
	"math/rand"
	"slices"
	"testing"

	"indenture/api"
	"indenture/node"
	"indenture/page"
	"indenture/zbtree"
)

// walked goes through a tree in a store, and tells its rows, and how high it is; it holds against each node the bounds of P12.5.
func walked(t *testing.T, s *page.Store, k api.Kid, d int, root bool, what ...any) ([]api.Row, int) {
	t.Helper()
	n, err := node.Get(s, k, d)
	if err != api.OK {
		t.Fatalf("error %d: %v", err, what)
	}
	items := len(n.Rows) + len(n.Kids)
	if items > 4 || items < 2 && !(root && items == 1 && n.Kind == 2) || n.Kind != 2 && n.Kind != 3 {
		t.Fatalf("%d items of kind %d: %v", items, n.Kind, what)
	}
	if n.Kind == 2 {
		var l []api.Row
		for _, e := range n.Rows {
			l = append(l, e.Row)
		}
		return l, 1
	}
	var l []api.Row
	height := 0
	for i, below := range n.Kids {
		rows, high := walked(t, s, below, d, false, what...)
		if i > 0 && high != height {
			t.Fatalf("ways of %d and %d nodes: %v", high, height, what)
		}
		l, height = append(l, rows...), high
	}
	return l, height + 1
}

// halved tells how often a number can be halved.
func halved(n int) int {
	times := 0
	for ; n > 1; n /= 2 {
		times++
	}
	return times
}

// bounded holds against a tree the bounds of P12.5, and that it has just such rows; it tells its height.
func bounded(t *testing.T, c *script, rows []api.Row, what ...any) int {
	t.Helper()
	height, err := zbtree.Height(c.store, c.kid, c.d)
	if err != api.OK {
		t.Fatalf("error %d: %v", err, what)
	}
	if len(rows) == 0 {
		if !node.Empty(c.kid) || height != 0 {
			t.Fatalf("%+v, %d high: %v", c.kid, height, what)
		}
		return height
	}
	got, high := walked(t, c.store, c.kid, c.d, true, what...)
	if !alikeRows(got, sorted(rows)) || high != height {
		t.Fatalf("%d, %d high, not %d: %v", got, high, height, what)
	}
	if len(rows) > 1 && height > halved(len(rows)) || len(rows) == 1 && height != 1 {
		t.Fatalf("%d rows are %d high: %v", len(rows), height, what)
	}
	return height
}

// P12.5: scripts of chance, that grow, stay and shrink: the rows are those that were inserted and not deleted, by their codes; each node but the root has 2 to 4 items, all ways down are alike long, and no longer than may be.
func TestFollows(t *testing.T) {
	random := rand.New(rand.NewSource(1))
	heights := map[int]int{}
	for d := 1; d <= 8; d++ {
		for _, of := range [][]int64{narrow, wide, {0, 1, 2, 3, 4, 5, 6, 7, 8, 9, 10, 11, 12}} {
			c := begin(d)
			var rows []api.Row // as they were inserted and not deleted
			for i := range 240 {
				p := point(random, d, of)
				p[random.Intn(d)] += int64(i % 5)
				at := slices.IndexFunc(rows, func(q api.Row) bool { return slices.Equal(p, q) })
				if odds := []int{9, 5, 2}[i/80]; len(rows) > 0 && random.Intn(10) >= odds {
					if random.Intn(8) > 0 {
						at = random.Intn(len(rows))
						p = rows[at]
					}
					if c.delete(t, p, d, i) != (at >= 0) {
						t.Fatalf("Delete %d: %d, %d", p, d, i)
					}
					if at >= 0 {
						rows = slices.Delete(rows, at, at+1)
					}
				} else {
					if c.insert(t, p, d, i) != (at < 0) {
						t.Fatalf("Insert %d: %d, %d", p, d, i)
					}
					if at < 0 {
						rows = append(rows, p)
					}
				}
				heights[bounded(t, c, rows, d, i)]++
			}
			c.is(t, d)
		}
	}
	for height := 1; height <= 4; height++ {
		if heights[height] < 100 {
			t.Errorf("%d trees are %d high", heights[height], height)
		}
	}
}

// P12.5: rows that come and go in many orders leave no tree higher than may be.
func TestBounds(t *testing.T) {
	most := map[int]int{}
	for d := 1; d <= 3; d++ {
		for i, l := range orders(rand.New(rand.NewSource(2)), line(d, 0, 100)) {
			c := begin(d)
			for n, p := range l {
				c.insert(t, p)
				most[n+1] = max(most[n+1], bounded(t, c, l[:n+1], d, i, n))
			}
			for n, p := range l {
				c.delete(t, p)
				left := len(l) - n - 1
				most[left] = max(most[left], bounded(t, c, l[n+1:], d, i, n))
			}
		}
	}
	if most[0] != 0 || most[1] != 1 || most[3] != 1 || most[4] != 2 || most[5] != 2 || most[100] < 4 {
		t.Errorf("%v", most)
	}
}

// bushy tells a tree of so many levels, each of whose nodes has two items.
func bushy(levels int, next *int64) *tree {
	if levels == 1 {
		*next += 10
		return &tree{rows: []api.Row{{*next}, {*next + 5}}}
	}
	return &tree{kids: []*tree{bushy(levels-1, next), bushy(levels-1, next)}}
}

// P12.5: a tree that is as high as its rows let it be is lower without any of them.
func TestHighest(t *testing.T) {
	for levels := 1; levels <= 6; levels++ {
		x := bushy(levels, new(int64))
		for _, p := range x.lives() {
			c := from(t, x, newTally())
			if height := bounded(t, c, x.lives(), p); height != levels {
				t.Errorf("%d levels are %d high", levels, height)
			}
			c.delete(t, p)
			if height := bounded(t, c, c.tree.lives(), p); height != max(levels-1, 1) {
				t.Errorf("without %d, %d levels are %d high", p, levels, height)
			}
			c.is(t, p)
		}
	}
}

// P12.5: each elder tree stays as it was, whatever is made of it, and may be gone on from, another way.
func TestElderTrees(t *testing.T) {
	random := rand.New(rand.NewSource(3))
	for d := 1; d <= 4; d++ {
		c := begin(d)
		elder := []script{*c}
		for i := range 150 {
			if random.Intn(4) == 0 {
				e := elder[len(elder)/2+random.Intn(len(elder)-len(elder)/2)]
				c = &e
			}
			p := point(random, d, []int64{0, 1, 2, 3, 4, 5, 6, 7, 8, 9})
			if random.Intn(4) > 0 {
				c.insert(t, p, d, i)
			} else {
				c.delete(t, p, d, i)
			}
			elder = append(elder, *c)
		}
		for i, e := range elder {
			e.is(t, d, i)
			has(t, e.store, e.kid, e.tree, d, e.tree.lives(), d, i)
		}
	}
}

// P12.5: what a call answers hangs on its arguments alone: the same steps tell the same in another store, also in one that has other pages, and in any store that has the tree.
func TestSameAgain(t *testing.T) {
	random := rand.New(rand.NewSource(4))
	for d := 1; d <= 3; d++ {
		a, b := begin(d), begin(d)
		for _, p := range points(random, d, 20, wide) {
			b.insert(t, p)
		}
		b.kid, b.tree = api.Kid{}, nil
		for range 100 {
			p := point(random, d, []int64{0, 1, 2, 3, 4, 5})
			if random.Intn(5) < 3 {
				a.insert(t, p)
				b.insert(t, p)
			} else {
				a.delete(t, p)
				b.delete(t, p)
			}
			if !node.Same(a.kid, b.kid) {
				t.Fatalf("%+v, %+v", a.kid, b.kid)
			}
			other := *a
			other.store = a.tree.storeWithout(t)
			other.insert(t, p)
			other.delete(t, p)
			other.is(t)
		}
	}
}

// P12.2, P12.3: a change puts nodes of the tree that it tells, and no other ones.
func TestPutsOneTree(t *testing.T) {
	random := rand.New(rand.NewSource(5))
	c := begin(2)
	for i := range 300 {
		c.store = c.tree.storeWithout(t)
		before := c.tree.all()
		p := point(random, 2, []int64{0, 1, 2, 3, 4, 5, 6, 7, 8, 9, 10})
		if random.Intn(10) < 6 {
			c.insert(t, p, i)
		} else {
			c.delete(t, p, i)
		}
		for _, sum := range c.store.Sums() {
			is := func(y *tree) bool { return y.kid().Sum == sum }
			if !slices.ContainsFunc(before, is) && !slices.ContainsFunc(c.tree.all(), is) {
				t.Fatalf("%d: a page of no tree", i)
			}
		}
	}
}
