package kdtree_test

import (
	"math/rand"
	"slices"
	"testing"

	"indenture/api"
	"indenture/kdtree"
	"indenture/node"
	"indenture/page"
)

// builds holds against Build that it tells the tree that is laid of rows, and that it puts its nodes.
func builds(t *testing.T, l []api.Row, d int, what ...any) {
	t.Helper()
	s := page.New()
	k, err := kdtree.Build(s, l, d)
	if err != api.OK {
		t.Fatalf("error %d: %v", err, what)
	}
	x := laid(l, 0)
	is(t, s, k, x, d, what...)
	has(t, s, k, x, d, l, what...)
}

// P11.1: the chapter's example.
func TestBuildKnown(t *testing.T) {
	for _, l := range [][]api.Row{{{1}, {2}, {3}}, {{3}, {2}, {1}}, {{2}, {3}, {1}}} {
		s := page.New()
		k, err := kdtree.Build(s, l, 1)
		n, got := node.Get(s, k, 1)
		if err != api.OK || got != api.OK || n.Rows[0].Row[0] != 2 || !n.Rows[0].Live || k.Size != 3 || k.Live != 3 {
			t.Fatalf("%+v: %+v, errors %d, %d", k, n, err, got)
		}
		for i, want := range []int64{1, 3} {
			n, err := node.Get(s, n.Kids[i], 1)
			if err != api.OK || n.Rows[0].Row[0] != want || !n.Rows[0].Live || !node.Empty(n.Kids[0]) || !node.Empty(n.Kids[1]) {
				t.Errorf("%d: %+v, error %d", i, n, err)
			}
		}
	}
}

// P11.1: of an even number of rows the one behind the middle is the Fork's; of two the second one.
func TestBuildEven(t *testing.T) {
	s := page.New()
	k, _ := kdtree.Build(s, []api.Row{{5}, {7}}, 1)
	n, err := node.Get(s, k, 1)
	if err != api.OK || n.Rows[0].Row[0] != 7 || n.Kids[0].Size != 1 || !node.Empty(n.Kids[1]) {
		t.Errorf("%+v, error %d", n, err)
	}
	k, _ = kdtree.Build(s, []api.Row{{4}, {3}, {2}, {1}}, 1)
	n, err = node.Get(s, k, 1)
	if err != api.OK || n.Rows[0].Row[0] != 3 || n.Kids[0].Size != 2 || n.Kids[1].Size != 1 {
		t.Errorf("%+v, error %d", n, err)
	}
}

// P11.1: at the next depth the next number tells, and behind the last one the first one again; those that are alike in it by the first one in which they aren't.
func TestBuildByDepths(t *testing.T) {
	s := page.New()
	l := []api.Row{{1, 9}, {2, 1}, {3, 5}, {4, 4}, {5, 7}, {6, 2}, {7, 3}}
	k, _ := kdtree.Build(s, l, 2)
	root, _ := node.Get(s, k, 2)
	first, _ := node.Get(s, root.Kids[0], 2)
	second, _ := node.Get(s, root.Kids[1], 2)
	last, _ := node.Get(s, second.Kids[1], 2)
	if !slices.Equal(root.Rows[0].Row, api.Row{4, 4}) || !slices.Equal(first.Rows[0].Row, api.Row{3, 5}) ||
		!slices.Equal(second.Rows[0].Row, api.Row{7, 3}) || !slices.Equal(last.Rows[0].Row, api.Row{5, 7}) {
		t.Errorf("%+v, %+v, %+v, %+v", root, first, second, last)
	}
	k, _ = kdtree.Build(s, []api.Row{{9, 4}, {1, 4}, {5, 4}, {8, 1}, {8, 3}, {8, 2}, {8, 0}}, 2)
	root, _ = node.Get(s, k, 2)
	first, _ = node.Get(s, root.Kids[0], 2)
	second, _ = node.Get(s, root.Kids[1], 2)
	if !slices.Equal(root.Rows[0].Row, api.Row{8, 1}) || !slices.Equal(first.Rows[0].Row, api.Row{1, 4}) || !slices.Equal(second.Rows[0].Row, api.Row{8, 3}) {
		t.Errorf("%+v, %+v, %+v", root, first, second)
	}
}

// P11.1: of no rows, of one, of odd and of even numbers, of points of each dimension, many alike in some numbers, in orders of chance: the tree of the chapter's words.
func TestBuild(t *testing.T) {
	random := rand.New(rand.NewSource(1))
	for d := 1; d <= 8; d++ {
		for _, of := range [][]int64{narrow, wide} {
			for n := range 20 {
				builds(t, points(random, d, n, of), d, d, n)
			}
			builds(t, points(random, d, 90+random.Intn(2), of), d, d)
		}
		rows := line(d, -20, 41)
		builds(t, rows, d, "rising", d)
		slices.Reverse(rows)
		builds(t, rows, d, "falling", d)
	}
}

// P11.1: whatever order rows are handed in, their tree is the same.
func TestBuildInEachOrder(t *testing.T) {
	rows := []api.Row{{0, 0}, {0, 1}, {1, 0}, {1, 1}, {0, 2}, {2, 0}}
	x := laid(rows, 0)
	orders := 0
	for l := range permutations(rows) {
		s := page.New()
		k, err := kdtree.Build(s, l, 2)
		if !node.Same(k, x.kid()) || err != api.OK || s.Len() != len(x.all()) {
			t.Fatalf("%d: %+v, error %d, %d pages", l, k, err, s.Len())
		}
		orders++
	}
	if orders != 720 {
		t.Errorf("%d orders", orders)
	}
}

// permutations tells all orders of rows.
func permutations(l []api.Row) func(yield func(l []api.Row) bool) {
	return func(yield func(l []api.Row) bool) {
		l = slices.Clone(l)
		var from func(i int) bool
		from = func(i int) bool {
			if i == len(l) {
				return yield(l)
			}
			for j := i; j < len(l); j++ {
				l[i], l[j] = l[j], l[i]
				on := from(i + 1)
				l[i], l[j] = l[j], l[i]
				if !on {
					return false
				}
			}
			return true
		}
		from(0)
	}
}

// P11.1: two rows that are the same, wherever they stand among others: ErrDup, and nothing is put.
func TestBuildOfTheSame(t *testing.T) {
	random := rand.New(rand.NewSource(2))
	for d := 1; d <= 8; d++ {
		for n := 2; n <= 7; n++ {
			for i := range n {
				for j := range i {
					l := points(random, d, n, narrow)
					l[i] = slices.Clone(l[j])
					s := page.New()
					k, err := kdtree.Build(s, l, d)
					refused(t, s, 0, k, err, api.ErrDup, l)
				}
			}
		}
		one := points(random, d, 1, wide)[0]
		s := page.New()
		k, err := kdtree.Build(s, []api.Row{one, one, one}, d)
		refused(t, s, 0, k, err, api.ErrDup, one)
	}
}

// P11.1: rows that have too few numbers, or too many, wherever they stand: ErrArg, ahead of ErrDup, and nothing is put.
func TestBuildOfWrongRows(t *testing.T) {
	random := rand.New(rand.NewSource(3))
	for d := 1; d <= 8; d++ {
		for _, numbers := range []int{0, 1, d - 1, d + 1, 8, 9, 300} {
			if numbers == d {
				continue
			}
			for at := range 4 {
				l := points(random, d, 4, narrow)
				l[at] = make(api.Row, numbers)
				s := page.New()
				k, err := kdtree.Build(s, l, d)
				refused(t, s, 0, k, err, api.ErrArg, d, numbers, at)
				l[(at+1)%4] = l[(at+2)%4]
				k, err = kdtree.Build(s, l, d)
				refused(t, s, 0, k, err, api.ErrArg, d, numbers, at)
			}
			s := page.New()
			k, err := kdtree.Build(s, []api.Row{make(api.Row, numbers)}, d)
			refused(t, s, 0, k, err, api.ErrArg, d, numbers)
		}
		s := page.New()
		k, err := kdtree.Build(s, []api.Row{nil, nil}, d)
		refused(t, s, 0, k, err, api.ErrArg, d)
	}
}

// P11.1: dimensions from below 1 to above MaxDims: ErrArg where there are none such, of no rows too.
func TestBuildDimensions(t *testing.T) {
	for _, d := range dims {
		for _, l := range [][]api.Row{nil, {}, {{}}, {{1}}, {{1, 2}}, {make(api.Row, 9)}, {make(api.Row, 10)}, {make(api.Row, 256)}} {
			s := page.New()
			k, err := kdtree.Build(s, l, d)
			if d < 1 || d > 8 || len(l) == 1 && len(l[0]) != d {
				refused(t, s, 0, k, err, api.ErrArg, d, l)
			} else {
				is(t, s, k, laid(l, 0), d, d, l)
			}
			if len(l) == 0 && !node.Empty(k) {
				t.Errorf("%d: %+v of no rows", d, k)
			}
		}
	}
}

// P11.1: what is in a store already is put again without harm: the same tree, no page more.
func TestBuildAgain(t *testing.T) {
	random := rand.New(rand.NewSource(4))
	s := page.New()
	l := points(random, 3, 40, narrow)
	k, _ := kdtree.Build(s, l, 3)
	pages := s.Len()
	other, err := kdtree.Build(s, l, 3)
	if !node.Same(k, other) || err != api.OK || s.Len() != pages {
		t.Errorf("%+v, error %d, %d pages", other, err, s.Len())
	}
	slices.Reverse(l)
	if other, _ = kdtree.Build(s, l, 3); !node.Same(k, other) || s.Len() != pages {
		t.Errorf("%+v, %d pages", other, s.Len())
	}
}
