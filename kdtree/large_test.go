package kdtree_test

import (
	"runtime/debug"
	"testing"

	"indenture/api"
	"indenture/kdtree"
	"indenture/node"
	"indenture/page"
)

// P11.1, P11.2: a tree of MaxBytes entries: no row comes to it any more, but one whose Fork is a tombstone; ErrDup holds of those that are there, and nothing is put. Rows that are one more are no tree.
func TestFull(t *testing.T) {
	rows := line(1, 0, api.MaxBytes+1)
	s := page.New()
	k, err := kdtree.Build(s, rows, 1)
	refused(t, s, 0, k, err, api.ErrArg)
	k, err = kdtree.Build(s, rows[:api.MaxBytes], 1)
	if err != api.OK || k.Live != api.MaxBytes || k.Size != api.MaxBytes || s.Len() != api.MaxBytes {
		t.Fatalf("%+v, error %d, %d pages", k, err, s.Len())
	}
	insert := func(k api.Kid, x int64, want api.Errno) api.Kid {
		pages := s.Len()
		again, err := kdtree.Insert(s, k, api.Row{x}, 1)
		if want != api.OK {
			refused(t, s, pages, again, err, want, x)
		}
		if err != want {
			t.Fatalf("%d: error %d, not %d", x, err, want)
		}
		return again
	}
	insert(k, -1, api.ErrArg)
	insert(k, api.MaxBytes, api.ErrArg)
	insert(k, 77, api.ErrDup)
	less, err := kdtree.Delete(s, k, api.Row{77}, 1)
	if err != api.OK || less.Live != api.MaxBytes-1 || less.Size != api.MaxBytes {
		t.Fatalf("%+v, error %d", less, err)
	}
	insert(less, -1, api.ErrArg)
	if again := insert(less, 77, api.OK); !node.Same(again, k) {
		t.Errorf("%+v, not %+v", again, k)
	}
}

// closed tells a kid of so many entries, some of them live, of which the store has no node.
func closed(live, size int, x int64) api.Kid {
	k := api.Kid{Sum: api.Digest{9, byte(x), byte(x >> 8)}, Live: live, Size: size}
	if live > 0 {
		k.Box = api.Box{Lo: api.Row{x}, Hi: api.Row{x}}
	}
	return k
}

// under puts Forks, one above the other, whose second kids are closed, each of as many entries as its first one's tree and so many more; till the whole tree has so many entries.
func under(t *testing.T, s *page.Store, k api.Kid, size int, live bool) api.Kid {
	t.Helper()
	for x := int64(100); k.Size < size; x++ {
		other := min(k.Size, size-k.Size-1)
		if size-k.Size-1-other < k.Size { // the last one: its greater kid isn't heavy either
			other = size - k.Size - 1
		}
		sibling := api.Kid{}
		if other > 0 {
			sibling = closed(one(live)*other, other, x)
		}
		n := api.Node{Kind: 1, Rows: []api.Entry{{Row: api.Row{x}, Live: true}}, Kids: []api.Kid{k, sibling}}
		var err api.Errno
		if k, err = node.Put(s, n, 1); err != api.OK {
			t.Fatalf("error %d", err)
		}
	}
	if k.Size != size {
		t.Fatalf("%d entries", k.Size)
	}
	return k
}

// P11.2: the nodes that aren't needed may be as many as there may be: the bound is met by what kids say.
func TestFullByWords(t *testing.T) {
	for _, x := range []struct {
		size int
		want api.Errno
	}{{api.MaxBytes - 2, api.OK}, {api.MaxBytes - 1, api.OK}, {api.MaxBytes, api.ErrArg}} {
		s := page.New()
		k, err := kdtree.Build(s, []api.Row{{1}, {3}, {5}}, 1)
		if err != api.OK {
			t.Fatalf("error %d", err)
		}
		k = under(t, s, k, x.size, true)
		pages := s.Len()
		more, err := kdtree.Insert(s, k, api.Row{4}, 1)
		if x.want != api.OK {
			refused(t, s, pages, more, err, x.want, x.size)
		} else if err != api.OK || more.Size != x.size+1 || more.Live != k.Live+1 {
			t.Errorf("%d: %+v, error %d", x.size, more, err)
		}
		again, err := kdtree.Insert(s, k, api.Row{3}, 1)
		refused(t, s, s.Len(), again, err, api.ErrDup, x.size)
	}
}

// P11.2: a Fork that is laid anew loses its tombstones, so the tree that would be may have fewer entries than the one that was.
func TestFullWithTombstones(t *testing.T) {
	c := begin(1)
	for x := range int64(6) {
		c.insert(t, api.Row{x}) // each one below the one ahead of it
	}
	c.delete(t, api.Row{2})
	c.delete(t, api.Row{3})
	small := c.kid
	if small.Live != 4 || small.Size != 6 {
		t.Fatalf("%+v", small)
	}
	k := under(t, c.store, small, api.MaxBytes, true)
	more, err := kdtree.Insert(c.store, k, api.Row{6}, 1)
	if err != api.OK || more.Size != api.MaxBytes-1 || more.Live != k.Live+1 {
		t.Errorf("%+v, error %d", more, err)
	}
}

// P11.2: ErrArg is named ahead of ErrForm: a tree that would have too many live rows is refused so, whether all its nodes can be got or not; one whose Fork may lose tombstones isn't.
func TestFullAndMissing(t *testing.T) {
	for _, x := range []struct {
		live int
		want api.Errno
	}{{api.MaxBytes - 1, api.ErrArg}, {api.MaxBytes - 2, api.ErrForm}, {0, api.ErrForm}} {
		s := page.New()
		n := api.Node{Kind: 1, Rows: []api.Entry{{Row: api.Row{5}, Live: true}}, Kids: []api.Kid{closed(x.live, api.MaxBytes-1, 3), {}}}
		k, err := node.Put(s, n, 1)
		if err != api.OK {
			t.Fatalf("error %d", err)
		}
		more, err := kdtree.Insert(s, k, api.Row{6}, 1)
		refused(t, s, 1, more, err, x.want, x.live)
	}
}

// P11.2 to P11.4: Forks that anybody made, each below another one, as deep as may be, are gone through to their end. What the stack may have is cut with the tree's share of what there may be.
func TestDeep(t *testing.T) {
	const deep = api.MaxBytes / 32
	defer debug.SetMaxStack(debug.SetMaxStack(1000000000 / 32))
	s := page.New()
	var k api.Kid
	for i := range int64(deep) {
		var err api.Errno
		n := api.Node{Kind: 1, Rows: []api.Entry{{Row: api.Row{deep - i}, Live: true}}, Kids: []api.Kid{{}, k}}
		if k, err = node.Put(s, n, 1); err != api.OK {
			t.Fatalf("error %d", err)
		}
	}
	if height, err := kdtree.Height(s, k, 1); height != deep || err != api.OK {
		t.Errorf("%d, error %d", height, err)
	}
	if rows, err := kdtree.Rows(s, k, 1); len(rows) != deep || err != api.OK || rows[0][0] != 1 || rows[deep-1][0] != deep {
		t.Errorf("%d rows, error %d", len(rows), err)
	}
	for _, x := range []int64{deep, deep + 1} {
		if ok, err := kdtree.Has(s, k, api.Row{x}, 1); ok != (x == deep) || err != api.OK {
			t.Errorf("%d: %t, error %d", x, ok, err)
		}
	}
	less, err := kdtree.Delete(s, k, api.Row{deep}, 1)
	if err != api.OK || less.Live != deep-1 || less.Size != deep {
		t.Errorf("%+v, error %d", less, err)
	}
	more, err := kdtree.Insert(s, k, api.Row{deep + 1}, 1)
	if err != api.OK || more.Live != deep+1 || more.Size != deep+1 {
		t.Errorf("%+v, error %d", more, err)
	}
	if height, err := kdtree.Height(s, more, 1); height > 17 || err != api.OK {
		t.Errorf("%d, error %d", height, err)
	}
}
