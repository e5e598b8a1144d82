package kdtree_test

import (
	"math/rand"
	"slices"
	"testing"

	"indenture/api"
	"indenture/kdtree"
	"indenture/node"
)

// highest tells how often a Size takes to be 0, turned as P11.5 has it.
func highest(size int) int {
	n := 0
	for size > 0 {
		size = min(size-1, size*2/3+1)
		n++
	}
	return n
}

// bounded holds against a tree the bounds of P11.5.
func bounded(t *testing.T, c *script, rows int, what ...any) int {
	t.Helper()
	height, err := kdtree.Height(c.store, c.kid, c.d)
	if err != api.OK || height > highest(c.kid.Size) {
		t.Fatalf("a height of %d of %d entries, more than %d, error %d: %v", height, c.kid.Size, highest(c.kid.Size), err, what)
	}
	if c.kid.Live != rows || c.kid.Size > 2*c.kid.Live {
		t.Fatalf("%d of %d entries are live, of %d rows: %v", c.kid.Live, c.kid.Size, rows, what)
	}
	return height
}

// P11.5: scripts of chance, that grow, stay and shrink: the rows are those that were inserted and not deleted, the Size is at most twice as many, the height within its bound.
func TestFollows(t *testing.T) {
	random := rand.New(rand.NewSource(1))
	most, tombs := 0, 0
	for d := 1; d <= 8; d++ {
		for _, of := range [][]int64{narrow, wide, {0, 1, 2, 3, 4, 5, 6, 7, 8, 9, 10, 11, 12}} {
			c := begin(d)
			var rows []api.Row // as they were inserted and not deleted
			for i := range 240 {
				p := point(random, d, of)
				if d > 4 {
					p[random.Intn(d)] += int64(i % 5)
				}
				at := slices.IndexFunc(rows, func(q api.Row) bool { return slices.Equal(p, q) })
				odds := []int{8, 5, 2}[i/80]
				if len(rows) > 0 && random.Intn(10) >= odds {
					if random.Intn(8) > 0 {
						at = random.Intn(len(rows))
						p = rows[at]
					}
					if c.delete(t, p, d, i) != (at >= 0) {
						t.Fatalf("Delete %d: %d, %d", p, d, i)
					}
					if at >= 0 {
						rows = slices.Delete(rows, at, at+1)
					}
				} else {
					if c.insert(t, p, d, i) != (at < 0) {
						t.Fatalf("Insert %d: %d, %d", p, d, i)
					}
					if at < 0 {
						rows = append(rows, p)
					}
				}
				got, err := kdtree.Rows(c.store, c.kid, d)
				if !alikeRows(got, sorted(rows)) || err != api.OK {
					t.Fatalf("%d, error %d, not %d", got, err, sorted(rows))
				}
				most = max(most, highest(c.kid.Size)-bounded(t, c, len(rows), d, i))
				tombs += one(c.kid.Size > c.kid.Live)
			}
			c.is(t, d)
		}
	}
	if most == 0 || tombs < 1000 {
		t.Errorf("%d from the bound, %d trees with tombstones", most, tombs)
	}
}

// P11.5: rows that come and go in orders that make a tree as high as it may be: there are trees at the bound of their height, and of their Size, and none beyond.
func TestBounds(t *testing.T) {
	atHeight, atSize := map[int]int{}, 0
	for d := 1; d <= 3; d++ {
		for i, l := range orders(rand.New(rand.NewSource(2)), line(d, 0, 100)) {
			c := begin(d)
			for n, p := range l {
				c.insert(t, p)
				if bounded(t, c, n+1, d, i, n) == highest(c.kid.Size) {
					atHeight[c.kid.Size]++
				}
			}
			c.is(t, d, i)
			for n, p := range l {
				c.delete(t, p)
				bounded(t, c, len(l)-n-1, d, i, n)
				atSize += one(c.kid.Size > 0 && c.kid.Size == 2*c.kid.Live)
			}
		}
	}
	for size := 1; size <= 6; size++ {
		if atHeight[size] == 0 {
			t.Errorf("no tree of %d entries is as high as it may be", size)
		}
	}
	if atSize < 15 {
		t.Errorf("%d trees have as many tombstones as live rows", atSize)
	}
}

// P11.5: each elder tree stays as it was, whatever is made of it, and may be gone on from, another way.
func TestElderTrees(t *testing.T) {
	random := rand.New(rand.NewSource(3))
	for d := 1; d <= 4; d++ {
		c := begin(d)
		elder := []script{*c}
		for i := range 120 {
			if random.Intn(4) == 0 {
				e := elder[random.Intn(len(elder))]
				c = &e
			}
			p := point(random, d, []int64{0, 1, 2, 3, 4})
			if random.Intn(3) > 0 {
				c.insert(t, p, d, i)
			} else {
				c.delete(t, p, d, i)
			}
			elder = append(elder, *c)
		}
		for i, e := range elder {
			e.is(t, d, i)
			has(t, e.store, e.kid, e.tree, d, e.tree.lives(), d, i)
		}
	}
}

// P11.5: what a call answers hangs on its arguments alone: the same steps tell the same in another store, also in one that has other pages, and in any store that has the tree.
func TestSameAgain(t *testing.T) {
	random := rand.New(rand.NewSource(4))
	for d := 1; d <= 3; d++ {
		a, b := begin(d), begin(d)
		for _, p := range points(random, d, 20, wide) {
			b.insert(t, p)
		}
		b.kid, b.tree = api.Kid{}, nil
		for range 100 {
			p := point(random, d, []int64{0, 1, 2, 3, 4, 5})
			if random.Intn(5) < 3 {
				a.insert(t, p)
				b.insert(t, p)
			} else {
				a.delete(t, p)
				b.delete(t, p)
			}
			if !node.Same(a.kid, b.kid) {
				t.Fatalf("%+v, %+v", a.kid, b.kid)
			}
			other := *a
			other.store = a.tree.without(t)
			other.insert(t, p)
			other.delete(t, p)
			other.is(t)
		}
	}
}

// P11.1, P11.5: a tree that was laid anew of all its rows is the one that Build tells of them.
func TestLaidAnewIsBuilt(t *testing.T) {
	random := rand.New(rand.NewSource(5))
	for d := 1; d <= 4; d++ {
		c := begin(d)
		rows := points(random, d, 60, wide)
		whole := 0
		for _, p := range rows {
			c.insert(t, p)
		}
		for _, p := range rows {
			before := c.counts.whole
			c.delete(t, p)
			if c.counts.whole == before {
				continue
			}
			whole++
			k, err := kdtree.Build(c.store, c.tree.lives(), d)
			if !node.Same(k, c.kid) || err != api.OK {
				t.Errorf("%+v, error %d, not %+v", k, err, c.kid)
			}
		}
		if whole < 4 {
			t.Errorf("%d whole trees", whole)
		}
	}
}
