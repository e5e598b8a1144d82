package zbtree_test

import (
	"math/rand"
	"slices"
	"testing"

	"indenture/api"
	"indenture/node"
	"indenture/page"
	"indenture/zbtree"
)

// builds holds against Build that it tells the tree that is laid of rows, and that it puts its nodes, and nothing else.
func builds(t *testing.T, l []api.Row, d int, what ...any) *tree {
	t.Helper()
	s := page.New()
	k, err := zbtree.Build(s, l, d)
	if err != api.OK {
		t.Fatalf("error %d: %v", err, what)
	}
	x := laid(l)
	is(t, s, k, x, d, what...)
	if s.Len() != len(x.all()) {
		t.Fatalf("%d pages of %d nodes: %v", s.Len(), len(x.all()), what)
	}
	return x
}

// counted tells how many items the nodes of a store's tree have, level by level from the Leaves up, each level from its first node on.
func counted(t *testing.T, s *page.Store, k api.Kid, d int) [][]int {
	t.Helper()
	n, err := node.Get(s, k, d)
	if err != api.OK {
		t.Fatalf("error %d", err)
	}
	var levels [][]int
	for _, below := range n.Kids {
		for i, counts := range counted(t, s, below, d) {
			if i == len(levels) {
				levels = append(levels, nil)
			}
			levels[i] = append(levels[i], counts...)
		}
	}
	return append(levels, []int{len(n.Rows) + len(n.Kids)})
}

// P12.1: the chapter's example: an Inner of (1, 2, 3) and (4, 5).
func TestBuildKnown(t *testing.T) {
	for _, l := range [][]api.Row{{{1}, {2}, {3}, {4}, {5}}, {{5}, {4}, {3}, {2}, {1}}, {{3}, {5}, {1}, {2}, {4}}} {
		s := page.New()
		k, err := zbtree.Build(s, l, 1)
		n, got := node.Get(s, k, 1)
		if err != api.OK || got != api.OK || n.Kind != 3 || len(n.Kids) != 2 || k.Size != 5 || k.Live != 5 || !slices.Equal(k.Key, api.Row{1}) {
			t.Fatalf("%+v: %+v, errors %d, %d", k, n, err, got)
		}
		for i, want := range [][]int64{{1, 2, 3}, {4, 5}} {
			below, err := node.Get(s, n.Kids[i], 1)
			if err != api.OK || below.Kind != 2 || len(below.Rows) != len(want) {
				t.Fatalf("%d: %+v, error %d", i, below, err)
			}
			for j, x := range want {
				if !slices.Equal(below.Rows[j].Row, api.Row{x}) || !below.Rows[j].Live {
					t.Errorf("%d, %d: %+v", i, j, below)
				}
			}
		}
	}
}

// P12.1: of no rows the empty tree; nothing is put.
func TestBuildOfNone(t *testing.T) {
	for d := 1; d <= 8; d++ {
		for _, l := range [][]api.Row{nil, {}} {
			s := page.New()
			k, err := zbtree.Build(s, l, d)
			refused(t, s, 0, k, err, api.OK, d)
		}
	}
}

// P12.1: how items are cut into groups: as few as hold them, the longer ones first; level by level.
func TestBuildGroups(t *testing.T) {
	for _, x := range []struct {
		n    int
		want [][]int
	}{
		{1, [][]int{{1}}}, {2, [][]int{{2}}}, {3, [][]int{{3}}}, {4, [][]int{{4}}},
		{5, [][]int{{3, 2}, {2}}}, {6, [][]int{{3, 3}, {2}}}, {7, [][]int{{4, 3}, {2}}}, {8, [][]int{{4, 4}, {2}}},
		{9, [][]int{{3, 3, 3}, {3}}}, {10, [][]int{{4, 3, 3}, {3}}}, {11, [][]int{{4, 4, 3}, {3}}}, {12, [][]int{{4, 4, 4}, {3}}},
		{13, [][]int{{4, 3, 3, 3}, {4}}}, {14, [][]int{{4, 4, 3, 3}, {4}}}, {15, [][]int{{4, 4, 4, 3}, {4}}}, {16, [][]int{{4, 4, 4, 4}, {4}}},
		{17, [][]int{{4, 4, 3, 3, 3}, {3, 2}, {2}}}, {18, [][]int{{4, 4, 4, 3, 3}, {3, 2}, {2}}},
		{21, [][]int{{4, 4, 4, 3, 3, 3}, {3, 3}, {2}}}, {25, [][]int{{4, 4, 4, 4, 3, 3, 3}, {4, 3}, {2}}},
		{33, [][]int{{4, 4, 4, 4, 4, 4, 3, 3, 3}, {3, 3, 3}, {3}}},
		{64, [][]int{slices.Repeat([]int{4}, 16), {4, 4, 4, 4}, {4}}},
		{65, [][]int{slices.Concat(slices.Repeat([]int{4}, 14), []int{3, 3, 3}), {4, 4, 3, 3, 3}, {3, 2}, {2}}},
	} {
		s := page.New()
		k, err := zbtree.Build(s, line(2, -9, x.n), 2)
		if err != api.OK {
			t.Fatalf("error %d", err)
		}
		if got := counted(t, s, k, 2); !slices.EqualFunc(got, x.want, func(a, b []int) bool { return slices.Equal(a, b) }) {
			t.Errorf("%d rows: %d, not %d", x.n, got, x.want)
		}
	}
}

// P12.1: each number of rows up to that of five levels: the tree of the chapter's words.
func TestBuildOfEachNumber(t *testing.T) {
	levels := map[int]int{}
	for n := range 280 {
		levels[builds(t, line(1, -100, n), 1, n).height()]++
	}
	if levels[0] != 1 || levels[1] != 4 || levels[2] != 12 || levels[3] != 48 || levels[4] != 192 || levels[5] != 23 {
		t.Errorf("%d", levels)
	}
}

// P12.1: of points of each dimension, many alike in some numbers, in rising, falling and mixed orders of their codes: the tree of the chapter's words.
func TestBuild(t *testing.T) {
	random := rand.New(rand.NewSource(1))
	for d := 1; d <= 8; d++ {
		for _, of := range [][]int64{narrow, wide} {
			for n := range 20 {
				x := builds(t, points(random, d, n, of), d, d, n)
				s := page.New()
				has(t, s, x.put(t, s), x, d, points(random, d, 20, of), d, n)
			}
			for i, l := range orders(random, points(random, d, 90, of)) {
				builds(t, l, d, d, i)
			}
		}
	}
}

// P12.1: rows stand by their codes, not by their numbers one by one.
func TestBuildByCodes(t *testing.T) {
	s := page.New()
	l := []api.Row{{3, 0}, {0, 3}, {1, 1}, {2, 0}, {0, 2}, {-1, 9}, {-1, -9}, {1, 0}}
	k, err := zbtree.Build(s, l, 2)
	if err != api.OK {
		t.Fatalf("error %d", err)
	}
	want := []api.Row{{-1, -9}, {-1, 9}, {1, 0}, {1, 1}, {0, 2}, {0, 3}, {2, 0}, {3, 0}}
	if rows, err := zbtree.Rows(s, k, 2); !alikeRows(rows, want) || err != api.OK {
		t.Errorf("%d, error %d", rows, err)
	}
	if !slices.Equal(k.Key, api.Row{-1, -9}) {
		t.Errorf("%+v", k)
	}
}

// P12.1: whatever order rows are handed in, their tree is the same.
func TestBuildInEachOrder(t *testing.T) {
	rows := []api.Row{{0, 0}, {0, 1}, {1, 0}, {1, 1}, {0, 2}, {2, 0}}
	x := laid(rows)
	orders := 0
	for l := range permutations(rows) {
		s := page.New()
		k, err := zbtree.Build(s, l, 2)
		if !node.Same(k, x.kid()) || err != api.OK || s.Len() != 3 {
			t.Fatalf("%d: %+v, error %d, %d pages", l, k, err, s.Len())
		}
		orders++
	}
	if orders != 720 {
		t.Errorf("%d orders", orders)
	}
}

// P12.1: two rows that are the same, wherever they stand among others: ErrDup, and nothing is put.
func TestBuildOfTheSame(t *testing.T) {
	random := rand.New(rand.NewSource(2))
	for d := 1; d <= 8; d++ {
		for n := 2; n <= 10; n++ {
			for i := range n {
				for j := range i {
					l := points(random, d, n, narrow)
					l[i] = slices.Clone(l[j])
					s := page.New()
					k, err := zbtree.Build(s, l, d)
					refused(t, s, 0, k, err, api.ErrDup, l)
				}
			}
		}
		p := points(random, d, 1, wide)[0]
		s := page.New()
		k, err := zbtree.Build(s, []api.Row{p, p, p}, d)
		refused(t, s, 0, k, err, api.ErrDup, p)
	}
}

// P12.1: rows that have too few numbers, or too many, wherever they stand: ErrArg, ahead of ErrDup, and nothing is put.
func TestBuildOfWrongRows(t *testing.T) {
	random := rand.New(rand.NewSource(3))
	for d := 1; d <= 8; d++ {
		for _, numbers := range []int{0, 1, d - 1, d + 1, 8, 9, 300} {
			if numbers == d {
				continue
			}
			for at := range 6 {
				l := points(random, d, 6, narrow)
				l[at] = make(api.Row, numbers)
				s := page.New()
				k, err := zbtree.Build(s, l, d)
				refused(t, s, 0, k, err, api.ErrArg, d, numbers, at)
				l[(at+1)%6] = l[(at+2)%6]
				k, err = zbtree.Build(s, l, d)
				refused(t, s, 0, k, err, api.ErrArg, d, numbers, at)
			}
			s := page.New()
			k, err := zbtree.Build(s, []api.Row{make(api.Row, numbers)}, d)
			refused(t, s, 0, k, err, api.ErrArg, d, numbers)
		}
		s := page.New()
		k, err := zbtree.Build(s, []api.Row{nil, nil}, d)
		refused(t, s, 0, k, err, api.ErrArg, d)
	}
}

// P12.1: dimensions from below 1 to above MaxDims: ErrArg where there are none such, of no rows too.
func TestBuildDimensions(t *testing.T) {
	for _, d := range dims {
		for _, l := range [][]api.Row{nil, {}, {{}}, {{1}}, {{1, 2}}, {make(api.Row, 9)}, {make(api.Row, 10)}, {make(api.Row, 256)}} {
			s := page.New()
			k, err := zbtree.Build(s, l, d)
			if d < 1 || d > 8 || len(l) == 1 && len(l[0]) != d {
				refused(t, s, 0, k, err, api.ErrArg, d, l)
			} else {
				is(t, s, k, laid(l), d, d, l)
			}
		}
	}
}

// P12.1: what is in a store already is put again without harm: the same tree, no page more.
func TestBuildAgain(t *testing.T) {
	random := rand.New(rand.NewSource(4))
	s := page.New()
	l := points(random, 3, 40, narrow)
	k, _ := zbtree.Build(s, l, 3)
	pages := s.Len()
	slices.Reverse(l)
	other, err := zbtree.Build(s, l, 3)
	if !node.Same(k, other) || err != api.OK || s.Len() != pages {
		t.Errorf("%+v, error %d, %d pages", other, err, s.Len())
	}
}
