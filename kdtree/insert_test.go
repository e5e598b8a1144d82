package kdtree_test

import (
	"math/rand"
	"slices"
	"testing"

	"indenture/api"
	"indenture/kdtree"
	"indenture/node"
	"indenture/page"
)

// bare tells the Fork of a row without kids.
func bare(p ...int64) *tree { return &tree{row: p, live: true} }

// P11.2: the chapter's example: 4; 4 with 5; the same with 6, which isn't heavy.
func TestInsertKnown(t *testing.T) {
	s := page.New()
	k, err := kdtree.Insert(s, api.Kid{}, api.Row{4}, 1)
	if err != api.OK {
		t.Fatalf("error %d", err)
	}
	is(t, s, k, bare(4), 1)
	k, err = kdtree.Insert(s, k, api.Row{5}, 1)
	if err != api.OK {
		t.Fatalf("error %d", err)
	}
	is(t, s, k, &tree{row: api.Row{4}, live: true, kids: [2]*tree{nil, bare(5)}}, 1)
	k, err = kdtree.Insert(s, k, api.Row{6}, 1)
	if err != api.OK {
		t.Fatalf("error %d", err)
	}
	five := &tree{row: api.Row{5}, live: true, kids: [2]*tree{nil, bare(6)}}
	is(t, s, k, &tree{row: api.Row{4}, live: true, kids: [2]*tree{nil, five}}, 1)
}

// P11.2: of rising rows the fourth, fifth and sixth one leave the root just not heavy (3 of 4, 4 of 5 and 5 of 6); with the seventh one it is: 6 is more than 5.
func TestInsertRisingKnown(t *testing.T) {
	c := begin(1)
	for i, height := range []int{1, 2, 3, 4, 5, 6, 3} {
		c.insert(t, api.Row{int64(i)})
		c.is(t, i)
		if got, err := kdtree.Height(c.store, c.kid, 1); got != height || err != api.OK {
			t.Errorf("%d rows: %d, error %d, not %d", i+1, got, err, height)
		}
	}
	if c.counts.just[0] != 3 || c.counts.heavy[0] != 1 {
		t.Errorf("%+v", c.counts)
	}
}

// P11.2: a row that is there already, live: ErrDup, at each depth; nothing is put.
func TestInsertTwice(t *testing.T) {
	random := rand.New(rand.NewSource(1))
	for d := 1; d <= 8; d++ {
		c := begin(d)
		l := points(random, d, 25, narrow)
		for _, p := range l {
			c.insert(t, p)
			if c.insert(t, p) {
				t.Errorf("%d was inserted twice", p)
			}
		}
		for _, p := range l {
			if c.insert(t, p) {
				t.Errorf("%d was inserted twice", p)
			}
		}
		c.is(t, d)
		k, err := kdtree.Build(c.store, l, d)
		if err != api.OK {
			t.Fatalf("error %d", err)
		}
		for _, p := range l {
			pages := c.store.Len()
			again, err := kdtree.Insert(c.store, k, p, d)
			refused(t, c.store, pages, again, err, api.ErrDup, p)
		}
	}
}

// P11.2: a row that was deleted comes back to its Fork, wherever it stands: the tree is as it was ahead of that.
func TestInsertDeleted(t *testing.T) {
	random := rand.New(rand.NewSource(2))
	for d := 1; d <= 8; d++ {
		l := points(random, d, 30, narrow)
		s := page.New()
		k, err := kdtree.Build(s, l, d)
		if err != api.OK {
			t.Fatalf("error %d", err)
		}
		for _, p := range l {
			less, err := kdtree.Delete(s, k, p, d)
			if err != api.OK || less.Live != 29 || less.Size != 30 {
				t.Fatalf("error %d: %+v", err, less)
			}
			again, err := kdtree.Insert(s, less, p, d)
			if err != api.OK || !node.Same(again, k) {
				t.Errorf("%d: %+v, error %d, not %+v", p, again, err, k)
			}
		}
	}
}

// P11.2: rows in each order that there is of few, behind one more: each tree of the chapter's words.
func TestInsertInEachOrder(t *testing.T) {
	for _, rows := range [][]api.Row{
		{{1}, {2}, {3}, {4}, {5}, {6}, {7}},
		{{0, 0}, {0, 1}, {1, 0}, {1, 1}, {0, 2}, {2, 0}, {2, 2}},
		{{0, 0, 2}, {1, 1, 1}, {1, 1, 2}, {1, 2, 1}, {2, 1, 1}, {2, 2, 1}, {0, 2, 2}},
	} {
		var counts tally
		for l := range permutations(rows[1:]) {
			c := begin(len(rows[0]))
			c.counts = counts
			c.insert(t, rows[0])
			for _, p := range l {
				c.insert(t, p, l)
			}
			c.is(t, l)
			counts = c.counts
		}
		if counts.heavy[0] == 0 || counts.just[0] == 0 || counts.just[1] == 0 {
			t.Errorf("%+v", counts)
		}
	}
}

// orders tells many orders of rows: rising, falling, from both ends, from the middle, and of chance.
func orders(random *rand.Rand, rows []api.Row) [][]api.Row {
	rising := sorted(rows)
	falling := slices.Clone(rising)
	slices.Reverse(falling)
	var ends []api.Row
	for i := range rising {
		if i%2 == 0 {
			ends = append(ends, rising[i/2])
		} else {
			ends = append(ends, falling[i/2])
		}
	}
	middle := slices.Clone(ends)
	slices.Reverse(middle)
	mixed := slices.Clone(rows)
	random.Shuffle(len(mixed), func(i, j int) { mixed[i], mixed[j] = mixed[j], mixed[i] })
	return [][]api.Row{rising, falling, ends, middle, mixed}
}

// P11.2: rising, falling and mixed orders of points of each dimension: each tree of the chapter's words; Forks of many depths are heavy, or just not.
func TestInsertInOrders(t *testing.T) {
	random := rand.New(rand.NewSource(3))
	var counts tally
	for d := 1; d <= 8; d++ {
		for _, rows := range [][]api.Row{points(random, d, 70, narrow), points(random, d, 70, wide), line(d, -35, 70)} {
			for i, l := range orders(random, rows) {
				c := begin(d)
				c.counts = counts
				for at, p := range l {
					c.insert(t, p, d, i)
					if at%10 == 0 {
						c.is(t, d, i, p)
					}
				}
				c.is(t, d, i)
				has(t, c.store, c.kid, c.tree, d, rows, d, i)
				counts = c.counts
			}
		}
	}
	for depth := range 6 {
		if counts.heavy[depth] < 20 || counts.just[depth] < 20 {
			t.Errorf("of the depth %d: %d heavy, %d just not", depth, counts.heavy[depth], counts.just[depth])
		}
	}
}

// P11.2: a Fork that is heavy is laid anew of its live rows alone, so its tombstones go; that may make one above it heavy, or no more so.
func TestInsertLaysLiveRows(t *testing.T) {
	random := rand.New(rand.NewSource(4))
	went, more := 0, 0
	for range 400 {
		d := 1 + random.Intn(3)
		c := begin(d)
		for i := range 60 {
			p := point(random, d, []int64{0, 1, 2, 3, 4, 5, 6, 7})
			p[0] += int64(i)
			if random.Intn(5) < 2 {
				l := c.tree.lives()
				if len(l) > 0 {
					c.delete(t, l[random.Intn(len(l))])
				}
				continue
			}
			size := c.kid.Size
			heavy := c.counts.heavy
			if e := c.tree.entry(p); c.insert(t, p) && e == nil && c.kid.Size <= size {
				went++
			}
			forks := 0
			for depth := range heavy {
				forks += c.counts.heavy[depth] - heavy[depth]
			}
			if forks > 1 {
				more++
			}
		}
		c.is(t)
	}
	if went < 500 || more < 10 {
		t.Errorf("tombstones went %d times, more Forks than one were heavy %d times", went, more)
	}
}

// P11.2: the tombstone of a Fork further down, which comes back, turns no other Fork.
func TestInsertIntoTombstones(t *testing.T) {
	c := begin(1)
	for _, x := range []int64{8, 4, 12, 2, 6, 10, 14} {
		c.insert(t, api.Row{x})
	}
	for _, x := range []int64{8, 2, 14} {
		c.delete(t, api.Row{x})
	}
	if c.kid.Live != 4 || c.kid.Size != 7 {
		t.Fatalf("%+v", c.kid)
	}
	for _, x := range []int64{14, 8, 2} {
		c.insert(t, api.Row{x})
		c.is(t, x)
	}
	if c.kid.Live != 7 || c.kid.Size != 7 {
		t.Errorf("%+v", c.kid)
	}
}
