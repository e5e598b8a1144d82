package zbtree_test

import (
	"runtime/debug"
	"slices"
	"testing"

	"indenture/api"
	"indenture/node"
	"indenture/page"
	"indenture/zbtree"
)

// P12.1, P12.2: a tree of MaxBytes rows: no row comes to it any more, till one has gone; ErrDup holds of those that are there, and nothing is put. Rows that are one more are no tree.
func TestFull(t *testing.T) {
	rows := line(1, 0, api.MaxBytes+1)
	s := page.New()
	k, err := zbtree.Build(s, rows, 1)
	refused(t, s, 0, k, err, api.ErrArg)
	rows[5] = rows[4]
	k, err = zbtree.Build(s, rows, 1)
	refused(t, s, 0, k, err, api.ErrArg)
	rows[5] = api.Row{5}
	k, err = zbtree.Build(s, rows[:api.MaxBytes], 1)
	if err != api.OK || k.Live != api.MaxBytes || k.Size != api.MaxBytes {
		t.Fatalf("%+v, error %d, %d pages", k, err, s.Len())
	}
	if height, err := zbtree.Height(s, k, 1); height != 10 || err != api.OK {
		t.Errorf("%d, error %d", height, err)
	}
	insert := func(k api.Kid, x int64, want api.Errno) api.Kid {
		pages := s.Len()
		again, err := zbtree.Insert(s, k, api.Row{x}, 1)
		if want != api.OK {
			refused(t, s, pages, again, err, want, x)
		}
		if err != want {
			t.Fatalf("%d: error %d, not %d", x, err, want)
		}
		return again
	}
	insert(k, -1, api.ErrArg)
	insert(k, api.MaxBytes, api.ErrArg)
	insert(k, 77, api.ErrDup)
	less, err := zbtree.Delete(s, k, api.Row{77}, 1)
	if err != api.OK || less.Live != api.MaxBytes-1 || less.Size != api.MaxBytes-1 {
		t.Fatalf("%+v, error %d", less, err)
	}
	if again := insert(less, 77, api.OK); !node.Same(again, k) {
		t.Errorf("%+v, not %+v", again, k)
	}
	full := insert(less, -1, api.OK)
	insert(full, 77, api.ErrArg)
	if got, err := zbtree.Rows(s, k, 1); !alikeRows(got, rows[:api.MaxBytes]) || err != api.OK {
		t.Errorf("%d rows, error %d", len(got), err)
	}
}

// closed tells a kid of so many rows, the first one of which is x, of which the store has no node.
func closed(rows int, x int64) api.Kid {
	r := api.Row{x}
	return api.Kid{Sum: api.Digest{9, byte(x), byte(x >> 8)}, Live: rows, Size: rows, Box: api.Box{Lo: r, Hi: api.Row{x + 9}}, Key: r}
}

// P12.2: nodes that aren't needed needn't be there, and may have as many rows as there may be: the bound is met by what kids say.
func TestFullByWords(t *testing.T) {
	for _, x := range []struct {
		rows int
		want api.Errno
	}{{api.MaxBytes - 2, api.OK}, {api.MaxBytes - 1, api.OK}, {api.MaxBytes, api.ErrArg}} {
		for kids := 1; kids <= 3; kids++ { // of four kids the root is cut
			for rows := 2; rows <= 4; rows++ { // of four rows the Leaf is cut
				s := page.New()
				k, err := zbtree.Build(s, line(1, 0, rows), 1)
				if err != api.OK {
					t.Fatalf("error %d", err)
				}
				n := api.Node{Kind: 3, Kids: []api.Kid{k}}
				for i := range kids {
					size := 7
					if i == 0 {
						size = x.rows - rows - 7*(kids-1)
					}
					n.Kids = append(n.Kids, closed(size, int64(100+20*i)))
				}
				if k, err = node.Put(s, n, 1); err != api.OK || k.Size != x.rows {
					t.Fatalf("%+v, error %d", k, err)
				}
				more, err := zbtree.Insert(s, k, api.Row{9}, 1)
				if x.want != api.OK {
					refused(t, s, 2, more, err, x.want, x.rows, kids, rows)
				} else if err != api.OK || more.Size != x.rows+1 || more.Live != x.rows+1 || !slices.Equal(more.Key, api.Row{0}) {
					t.Errorf("%d: %+v, error %d", x.rows, more, err)
				}
				again, err := zbtree.Insert(s, k, api.Row{1}, 1)
				refused(t, s, s.Len(), again, err, api.ErrDup, x.rows)
			}
		}
	}
}

// deep tells a tree that nobody's call made: Inners, each below another one, as its first kid or its last one, whose other kid is a Leaf of one row.
func deep(t *testing.T, s *page.Store, levels int64, first bool) api.Kid {
	t.Helper()
	put := func(n api.Node) api.Kid {
		k, err := node.Put(s, n, 1)
		if err != api.OK {
			t.Fatalf("error %d", err)
		}
		return k
	}
	leaf := func(x int64) api.Node {
		return api.Node{Kind: 2, Rows: []api.Entry{{Row: api.Row{x}, Live: true}}}
	}
	k := put(leaf(levels))
	for x := levels - 1; x >= 0; x-- {
		kids := []api.Kid{put(leaf(x)), k}
		if first {
			kids = []api.Kid{k, put(leaf(2*levels - x))}
		}
		k = put(api.Node{Kind: 3, Kids: kids})
	}
	return k
}

// P12.2 to P12.4: Inners that anybody made, each below another one, as deep as may be, are gone through to their end. What the stack may have is cut with the tree's share of what there may be.
func TestDeep(t *testing.T) {
	const levels = api.MaxBytes / 32
	defer debug.SetMaxStack(debug.SetMaxStack(1000000000 / 32))
	for _, first := range []bool{false, true} {
		s := page.New()
		k := deep(t, s, levels, first)
		want := map[bool]int{false: 2, true: levels + 1}[first]
		if height, err := zbtree.Height(s, k, 1); height != want || err != api.OK {
			t.Errorf("%d, error %d", height, err)
		}
		if rows, err := zbtree.Rows(s, k, 1); len(rows) != levels+1 || err != api.OK || rows[levels][0]-rows[0][0] != levels {
			t.Errorf("%d rows, error %d", len(rows), err)
		}
		for _, x := range []int64{levels, 3 * levels} {
			if ok, err := zbtree.Has(s, k, api.Row{x}, 1); ok != (x == levels) || err != api.OK {
				t.Errorf("%d: %t, error %d", x, ok, err)
			}
		}
		more, err := zbtree.Insert(s, k, api.Row{-1}, 1)
		if err != api.OK || more.Live != levels+2 || !slices.Equal(more.Key, api.Row{-1}) {
			t.Errorf("%+v, error %d", more, err)
		}
		pages := s.Len()
		less, err := zbtree.Delete(s, k, api.Row{levels}, 1)
		refused(t, s, pages, less, err, api.ErrForm) // the Inner that has one kid then has a Leaf beside it
	}
}
