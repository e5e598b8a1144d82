package zbtree_test

import (
	"math/rand"
	"slices"
	"testing"

	"indenture/api"
	"indenture/node"
	"indenture/page"
	"indenture/zbtree"
)

const spare = 3 // elements of room behind each list that is handed in

// roomy is a copy of a row with elements behind it that aren't of it.
func roomy(r api.Row) api.Row { return append(slices.Clone(r), -77, -77, -77)[:len(r)] }

// stays tells whether what stands behind a row is what roomy put there.
func stays(r api.Row) bool { return slices.Equal(r[len(r):len(r)+spare], []int64{-77, -77, -77}) }

func roomyRows(l []api.Row) []api.Row {
	var c []api.Row
	for _, r := range l {
		c = append(c, roomy(r))
	}
	return append(c, api.Row{-78}, api.Row{-78}, api.Row{-78})[:len(l)]
}

func rowsStay(l []api.Row) bool {
	return alikeRows(l[len(l):len(l)+spare], []api.Row{{-78}, {-78}, {-78}}) &&
		!slices.ContainsFunc(l, func(r api.Row) bool { return !stays(r) })
}

func roomyKid(k api.Kid) api.Kid {
	k.Box = api.Box{Lo: roomy(k.Box.Lo), Hi: roomy(k.Box.Hi)}
	k.Key = roomy(k.Key)
	return k
}

func kidStays(k api.Kid) bool { return stays(k.Box.Lo) && stays(k.Box.Hi) && stays(k.Key) }

// spoil writes over a list, and the room behind it.
func spoil(r api.Row) {
	for i := range r[:cap(r)] {
		r[:cap(r)][i] ^= 0x5a5a
	}
}

func spoilKid(k api.Kid) {
	spoil(k.Box.Lo)
	spoil(k.Box.Hi)
	spoil(k.Key)
}

// P12.1: rows that are handed in stay as they are, in their order, their spare room too, whether they are taken or not; written over behind it they turn nothing.
func TestBuildRowsStay(t *testing.T) {
	random := rand.New(rand.NewSource(1))
	for d := 1; d <= 8; d++ {
		for n := range 20 {
			was := points(random, d, n, narrow)
			x := laid(was)
			l := roomyRows(was)
			s := page.New()
			k, err := zbtree.Build(s, l, d)
			if err != api.OK || !alikeRows(l, was) || !rowsStay(l) {
				t.Fatalf("%d, error %d, they were %d", l, err, was)
			}
			for i, r := range l {
				spoil(r)
				l[i] = api.Row{99, 98}
			}
			is(t, s, k, copied(x), d, n)
			if n < 2 {
				continue
			}
			for _, wrong := range []api.Row{was[0], make(api.Row, d+1)} {
				was := append(slices.Clone(was), wrong)
				l := roomyRows(was)
				if _, err := zbtree.Build(s, l, d); err == api.OK || !alikeRows(l, was) || !rowsStay(l) {
					t.Errorf("%d, error %d, they were %d", l, err, was)
				}
			}
		}
	}
}

// copied tells a tree of copies of a tree's rows.
func copied(x *tree) *tree {
	if x == nil {
		return nil
	}
	y := &tree{rows: copyRows(x.rows)}
	for _, below := range x.kids {
		y.kids = append(y.kids, copied(below))
	}
	return y
}

// P12.2 to P12.4: rows and kids that are handed in stay as they are, their spare room too, whatever comes of it; written over behind it they turn nothing.
func TestRowsAndKidsStay(t *testing.T) {
	random := rand.New(rand.NewSource(2))
	for _, d := range []int{1, 2, 3, 8} {
		for levels := 1; levels <= 3; levels++ {
			next := int64(0)
			c := from(t, shape(random, d, levels, &next), newTally())
			for _, was := range append(between(c.tree), make(api.Row, d+1), nil) {
				for _, d := range []int{d, 0, 9} {
					stay(t, c, was, d)
				}
			}
			stay(t, begin(d), make(api.Row, d), d)
			c.is(t, d, levels)
		}
	}
}

// stay holds against all calls with a row and a tree that these stay.
func stay(t *testing.T, c *script, was api.Row, d int) {
	t.Helper()
	calls := []func(k api.Kid, p api.Row) api.Kid{
		func(k api.Kid, p api.Row) api.Kid { k, _ = zbtree.Insert(c.store, k, p, d); return k },
		func(k api.Kid, p api.Row) api.Kid { k, _ = zbtree.Delete(c.store, k, p, d); return k },
		func(k api.Kid, p api.Row) api.Kid { zbtree.Has(c.store, k, p, d); return api.Kid{} },
		func(k api.Kid, p api.Row) api.Kid { zbtree.Rows(c.store, k, d); return api.Kid{} },
		func(k api.Kid, p api.Row) api.Kid { zbtree.Height(c.store, k, d); return api.Kid{} },
	}
	for i, call := range calls {
		k, p := roomyKid(c.kid), roomy(was)
		told := call(k, p)
		if !node.Same(k, c.kid) || !kidStays(k) || !slices.Equal(p, was) || !stays(p) {
			t.Fatalf("call %d: %+v, %d; they were %+v, %d", i, k, p, c.kid, was)
		}
		kept := copyKid(told)
		spoil(p)
		spoilKid(k)
		if !node.Same(told, kept) {
			t.Fatalf("call %d: %+v turned with what was handed in", i, told)
		}
		if again := call(roomyKid(c.kid), roomy(was)); !node.Same(again, kept) {
			t.Fatalf("call %d: %+v again, not %+v", i, again, kept)
		}
	}
}

// P12.1 to P12.4: kids that were told may be written over, their spare room too: no other answer turns, nor does the tree.
func TestToldKids(t *testing.T) {
	random := rand.New(rand.NewSource(3))
	for _, d := range []int{1, 2, 8} {
		l := points(random, d, 14, narrow)
		extra := points(random, d, 1, []int64{20})[0]
		s := page.New()
		of := func(n int) api.Kid { return laid(l[:n]).kid() }
		for i, call := range []func() (api.Kid, api.Errno){
			func() (api.Kid, api.Errno) { return zbtree.Build(s, l, d) },
			func() (api.Kid, api.Errno) { return zbtree.Build(s, l[:5], d) },
			func() (api.Kid, api.Errno) { return zbtree.Build(s, l[:4], d) },
			func() (api.Kid, api.Errno) { return zbtree.Build(s, l[:1], d) },
			func() (api.Kid, api.Errno) { return zbtree.Insert(s, of(14), extra, d) },
			func() (api.Kid, api.Errno) { return zbtree.Delete(s, of(14), l[3], d) },
			func() (api.Kid, api.Errno) { return zbtree.Insert(s, api.Kid{}, l[2], d) },
			func() (api.Kid, api.Errno) { return zbtree.Insert(s, of(4), l[5], d) },
			func() (api.Kid, api.Errno) { return zbtree.Delete(s, of(5), sorted(l[:5])[4], d) }, // the root gives way
			func() (api.Kid, api.Errno) { return zbtree.Delete(s, of(4), l[3], d) },
		} {
			one, err := call()
			two, other := call()
			kept := copyKid(two)
			if err != api.OK || other != api.OK || !node.Same(one, two) {
				t.Fatalf("%d: errors %d, %d", i, err, other)
			}
			rows, err := zbtree.Rows(s, one, d)
			if err != api.OK {
				t.Fatalf("%d: error %d", i, err)
			}
			for _, r := range []api.Row{one.Box.Lo, one.Box.Hi, one.Key} {
				_ = append(r, 7, 7)
				spoil(r)
			}
			if !node.Same(two, kept) {
				t.Errorf("%d: %+v, it was %+v", i, two, kept)
			}
			if again, err := zbtree.Rows(s, two, d); !alikeRows(again, rows) || err != api.OK {
				t.Errorf("%d: %d, error %d, they were %d", i, again, err, rows)
			}
			spoil(append(two.Box.Lo, 8))
			spoil(append(two.Key, 8))
			if two.Box.Hi[d-1] != kept.Box.Hi[d-1] {
				t.Errorf("%d: its lists share memory", i)
			}
		}
	}
}

// P12.4: rows that were told may be written over, their spare room too: no other one turns, nor does the tree, nor does another answer.
func TestToldRows(t *testing.T) {
	random := rand.New(rand.NewSource(4))
	for _, d := range []int{1, 2, 3, 8} {
		next := int64(0)
		c := from(t, shape(random, d, 2, &next), newTally())
		one, err := zbtree.Rows(c.store, c.kid, d)
		two, other := zbtree.Rows(c.store, c.kid, d)
		if err != api.OK || other != api.OK || len(one) < 4 {
			t.Fatalf("errors %d, %d: %d", err, other, one)
		}
		kept := copyRows(one)
		for i, r := range one {
			_ = append(r, 5, 5)
			spoil(r)
			for j := range one {
				if j > i && !slices.Equal(one[j], kept[j]) {
					t.Fatalf("row %d turned with row %d", j, i)
				}
			}
		}
		_ = append(one, api.Row{4})
		if !alikeRows(two, kept) {
			t.Errorf("%d, they were %d", two, kept)
		}
		c.is(t, d)
	}
}

// P12.1 to P12.4: a store that is the zero one takes trees like a new one.
func TestZeroStore(t *testing.T) {
	var s page.Store
	is(t, &s, api.Kid{}, nil, 2)
	k, err := zbtree.Build(&s, line(2, 0, 9), 2)
	if err != api.OK {
		t.Fatalf("error %d", err)
	}
	is(t, &s, k, laid(line(2, 0, 9)), 2)
	var other page.Store
	k, err = zbtree.Insert(&other, api.Kid{}, api.Row{1, 2}, 2)
	if err != api.OK {
		t.Fatalf("error %d", err)
	}
	is(t, &other, k, &tree{rows: []api.Row{{1, 2}}}, 2)
}
