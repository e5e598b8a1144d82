package kdtree_test

import (
	"math/rand"
	"slices"
	"testing"

	"indenture/api"
	"indenture/kdtree"
	"indenture/node"
	"indenture/page"
)

const spare = 3 // elements of room behind each list that is handed in

// room is a copy of a list with elements behind it that aren't of it.
func room[T any](l []T, behind T) []T {
	whole := slices.Clone(l)
	for range spare {
		whole = append(whole, behind)
	}
	return whole[:len(l)]
}

// stays tells whether what stands behind a list is what room put there.
func stays[T any](l []T, is func(x T) bool) bool {
	return !slices.ContainsFunc(l[len(l):len(l)+spare], func(x T) bool { return !is(x) })
}

func roomyRow(r api.Row) api.Row { return room(r, -77) }

func rowStays(r api.Row) bool { return stays(r, func(x int64) bool { return x == -77 }) }

func roomyRows(l []api.Row) []api.Row {
	l = room(l, api.Row{-78})
	for i := range l {
		l[i] = roomyRow(l[i])
	}
	return l
}

func rowsStay(l []api.Row) bool {
	return stays(l, func(r api.Row) bool { return slices.Equal(r, api.Row{-78}) }) &&
		!slices.ContainsFunc(l, func(r api.Row) bool { return !rowStays(r) })
}

func roomyKid(k api.Kid) api.Kid {
	k.Box = api.Box{Lo: roomyRow(k.Box.Lo), Hi: roomyRow(k.Box.Hi)}
	k.Key = roomyRow(k.Key)
	return k
}

func kidStays(k api.Kid) bool { return rowStays(k.Box.Lo) && rowStays(k.Box.Hi) && rowStays(k.Key) }

// spoil writes over a list, and the room behind it.
func spoil(r api.Row) {
	for i := range r[:cap(r)] {
		r[:cap(r)][i] ^= 0x5a5a
	}
}

func spoilRows(l []api.Row) {
	for i, r := range l {
		spoil(r)
		l[i] = api.Row{99, 98}
	}
}

func spoilKid(k api.Kid) {
	spoil(k.Box.Lo)
	spoil(k.Box.Hi)
	spoil(k.Key)
}

// P11.1: rows that are handed in stay as they are, in their order, their spare room too, whether they are taken or not; written over behind it they turn nothing.
func TestBuildRowsStay(t *testing.T) {
	random := rand.New(rand.NewSource(1))
	for d := 1; d <= 8; d++ {
		for n := range 20 {
			was := points(random, d, n, narrow)
			x := laid(was, 0)
			l := roomyRows(was)
			s := page.New()
			k, err := kdtree.Build(s, l, d)
			if err != api.OK || !alikeRows(l, was) || !rowsStay(l) {
				t.Fatalf("%d, error %d, they were %d", l, err, was)
			}
			spoilRows(l)
			is(t, s, k, x, d, n)
			if n < 2 {
				continue
			}
			for _, wrong := range []api.Row{was[0], make(api.Row, d+1)} {
				was := append(slices.Clone(was), wrong)
				l := roomyRows(was)
				if _, err := kdtree.Build(s, l, d); err == api.OK || !alikeRows(l, was) || !rowsStay(l) {
					t.Errorf("%d, error %d, they were %d", l, err, was)
				}
			}
		}
	}
}

// P11.2 to P11.4: rows and kids that are handed in stay as they are, their spare room too, whatever comes of it; written over behind it they turn nothing.
func TestRowsAndKidsStay(t *testing.T) {
	random := rand.New(rand.NewSource(2))
	for _, d := range []int{1, 2, 3, 8} {
		for _, steps := range []int{1, 5, 12, 16} {
			c, rows := grown(t, random, d, steps)
			rows = append(rows, points(random, d, 5, wide)...)
			rows = append(rows, make(api.Row, d+1), nil)
			for _, was := range rows {
				for _, d := range []int{d, 0, 9} {
					stay(t, c, was, d)
				}
			}
			c.is(t, d, steps)
		}
	}
}

// stay holds against all calls with a row and a tree that these stay.
func stay(t *testing.T, c *script, was api.Row, d int) {
	t.Helper()
	calls := []func(k api.Kid, p api.Row) api.Kid{
		func(k api.Kid, p api.Row) api.Kid { k, _ = kdtree.Insert(c.store, k, p, d); return k },
		func(k api.Kid, p api.Row) api.Kid { k, _ = kdtree.Delete(c.store, k, p, d); return k },
		func(k api.Kid, p api.Row) api.Kid { kdtree.Has(c.store, k, p, d); return api.Kid{} },
		func(k api.Kid, p api.Row) api.Kid { kdtree.Rows(c.store, k, d); return api.Kid{} },
		func(k api.Kid, p api.Row) api.Kid { kdtree.Height(c.store, k, d); return api.Kid{} },
	}
	for i, call := range calls {
		k, p := roomyKid(c.kid), roomyRow(was)
		told := call(k, p)
		if !node.Same(k, c.kid) || !kidStays(k) || !slices.Equal(p, was) || !rowStays(p) {
			t.Fatalf("call %d: %+v, %d; they were %+v, %d", i, k, p, c.kid, was)
		}
		kept := copyKid(told)
		spoil(p)
		spoilKid(k)
		if !node.Same(told, kept) {
			t.Fatalf("call %d: %+v turned with what was handed in", i, told)
		}
		if again := call(roomyKid(c.kid), roomyRow(was)); !node.Same(again, kept) {
			t.Fatalf("call %d: %+v again, not %+v", i, again, kept)
		}
	}
}

// P11.1 to P11.4: kids that were told may be written over, their spare room too: no other answer turns, nor does the tree.
func TestToldKids(t *testing.T) {
	random := rand.New(rand.NewSource(3))
	for _, d := range []int{1, 2, 8} {
		l := points(random, d, 14, narrow)
		extra := points(random, d, 1, []int64{20})[0]
		s := page.New()
		for i, call := range []func() (api.Kid, api.Errno){
			func() (api.Kid, api.Errno) { return kdtree.Build(s, l, d) },
			func() (api.Kid, api.Errno) { return kdtree.Insert(s, laid(l, 0).kid(), extra, d) },
			func() (api.Kid, api.Errno) { return kdtree.Delete(s, laid(l, 0).kid(), l[3], d) },
			func() (api.Kid, api.Errno) { return kdtree.Build(s, l[:1], d) },
			func() (api.Kid, api.Errno) { return kdtree.Insert(s, api.Kid{}, l[2], d) },
			func() (api.Kid, api.Errno) { return kdtree.Insert(s, laid(l[2:3], 0).kid(), l[3], d) },
		} {
			one, err := call()
			two, other := call()
			kept := copyKid(two)
			if err != api.OK || other != api.OK || !node.Same(one, two) {
				t.Fatalf("%d: errors %d, %d", i, err, other)
			}
			rows, err := kdtree.Rows(s, one, d)
			if err != api.OK {
				t.Fatalf("%d: error %d", i, err)
			}
			for _, r := range []api.Row{one.Box.Lo, one.Box.Hi} {
				_ = append(r, 7, 7)
				spoil(r)
			}
			if !node.Same(two, kept) {
				t.Errorf("%d: %+v, it was %+v", i, two, kept)
			}
			if again, err := kdtree.Rows(s, two, d); !alikeRows(again, rows) || err != api.OK {
				t.Errorf("%d: %d, error %d, they were %d", i, again, err, rows)
			}
			_ = append(two.Box.Lo, 8)
			if !slices.Equal(two.Box.Hi, kept.Box.Hi) {
				t.Errorf("%d: the box's corners share memory", i)
			}
		}
	}
}

// P11.4: rows that were told may be written over, their spare room too: no other one turns, nor does the tree, nor does another answer.
func TestToldRows(t *testing.T) {
	random := rand.New(rand.NewSource(4))
	for _, d := range []int{1, 2, 3, 8} {
		c, _ := grown(t, random, d, 16)
		one, err := kdtree.Rows(c.store, c.kid, d)
		two, other := kdtree.Rows(c.store, c.kid, d)
		if err != api.OK || other != api.OK || len(one) < 3 {
			t.Fatalf("errors %d, %d: %d", err, other, one)
		}
		kept := copyRows(one)
		for i, r := range one {
			_ = append(r, 5, 5)
			spoil(r)
			for j := range one {
				if j > i && !slices.Equal(one[j], kept[j]) {
					t.Fatalf("row %d turned with row %d", j, i)
				}
			}
		}
		_ = append(one, api.Row{4})
		if !alikeRows(two, kept) {
			t.Errorf("%d, they were %d", two, kept)
		}
		c.is(t, d)
	}
}

// P11.1 to P11.4: a store that is the zero one takes trees like a new one.
func TestZeroStore(t *testing.T) {
	var s page.Store
	is(t, &s, api.Kid{}, nil, 2)
	k, err := kdtree.Build(&s, line(2, 0, 5), 2)
	if err != api.OK {
		t.Fatalf("error %d", err)
	}
	is(t, &s, k, laid(line(2, 0, 5), 0), 2)
	var other page.Store
	k, err = kdtree.Insert(&other, api.Kid{}, api.Row{1, 2}, 2)
	if err != api.OK {
		t.Fatalf("error %d", err)
	}
	is(t, &other, k, bare(1, 2), 2)
}
