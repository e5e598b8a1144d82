package zbtree_test

import (
	"math/rand"
	"testing"

	"indenture/api"
	"indenture/page"
	"indenture/zbtree"
)

// P12.4: of the empty tree no rows, no height, and no point is in it; nothing is put.
func TestAskEmpty(t *testing.T) {
	for d := 1; d <= 8; d++ {
		s := page.New()
		for _, empty := range []api.Kid{{}, {Box: api.Box{Lo: api.Row{}, Hi: api.Row{}}, Key: api.Row{}}} {
			is(t, s, empty, nil, d, d)
			has(t, s, empty, nil, d, []api.Row{make(api.Row, d)}, d)
		}
	}
}

// P12.4: rows stand by their codes; the height is one of a Leaf, and one more for each level of Inners.
func TestAskKnown(t *testing.T) {
	s := page.New()
	k, _ := zbtree.Build(s, []api.Row{{2, 5}, {1, 9}, {-3, 7}, {2, -5}, {1, 8}, {2, 4}}, 2)
	k, _ = zbtree.Delete(s, k, api.Row{2, 4}, 2)
	rows, err := zbtree.Rows(s, k, 2)
	if want := []api.Row{{-3, 7}, {2, -5}, {2, 5}, {1, 8}, {1, 9}}; !alikeRows(rows, want) || err != api.OK {
		t.Errorf("%d, error %d", rows, err)
	}
	if height, err := zbtree.Height(s, k, 2); height != 2 || err != api.OK {
		t.Errorf("%d, error %d", height, err)
	}
	for _, x := range []struct {
		row  api.Row
		want bool
	}{{api.Row{2, 5}, true}, {api.Row{2, 4}, false}, {api.Row{5, 2}, false}, {api.Row{2, -5}, true}, {api.Row{-3, 7}, true}, {api.Row{-3, 8}, false}} {
		if ok, err := zbtree.Has(s, k, x.row, 2); ok != x.want || err != api.OK {
			t.Errorf("%d: %t, error %d", x.row, ok, err)
		}
	}
}

// P12.4: how high laid trees are, at each number of rows at which there is one level more.
func TestHeights(t *testing.T) {
	for _, x := range []struct{ rows, want int }{{0, 0}, {1, 1}, {4, 1}, {5, 2}, {16, 2}, {17, 3}, {64, 3}, {65, 4}, {256, 4}, {257, 5}} {
		s := page.New()
		k, _ := zbtree.Build(s, line(3, 0, x.rows), 3)
		if height, err := zbtree.Height(s, k, 3); height != x.want || err != api.OK {
			t.Errorf("%d rows: %d, error %d, not %d", x.rows, height, err, x.want)
		}
	}
}

// P12.4: in each tree of two levels that may be: all its rows, and none between them.
func TestHasInEachShape(t *testing.T) {
	for _, x := range shapes() {
		s := page.New()
		k := x.put(t, s)
		var asked []api.Row
		for n := int64(-1); n < int64(len(x.lives())+2)*10; n++ {
			asked = append(asked, api.Row{n})
		}
		has(t, s, k, x, 1, asked)
		is(t, s, k, x, 1)
	}
}

// P12.4: after each step of scripts of chance, of points of each dimension: which rows are there, of all that there may be, the rows in order, and the height.
func TestAskAfterEachStep(t *testing.T) {
	random := rand.New(rand.NewSource(1))
	for d := 1; d <= 8; d++ {
		of := [][]int64{{-4, -3, -2, -1, 0, 1, 2, 3, 4, 5, 6, 7, 8, 9}, wide, {0, 1, 2}, {0, 1}}[min(d, 4)-1]
		for range 3 {
			c := begin(d)
			var all []api.Row
			for range 70 {
				all = append(all, point(random, d, of))
			}
			for _, p := range all {
				if random.Intn(3) > 0 {
					c.insert(t, p)
				} else {
					c.delete(t, all[random.Intn(len(all))])
				}
				c.is(t, d, p)
				has(t, c.store, c.kid, c.tree, d, all, d, p)
			}
		}
	}
}

// P12.4: points that have too few numbers or too many, and dimensions that there aren't: ErrArg, whatever the tree is.
func TestAskWrong(t *testing.T) {
	random := rand.New(rand.NewSource(2))
	for d := 1; d <= 8; d++ {
		s := page.New()
		k, err := zbtree.Build(s, points(random, d, 9, narrow), d)
		if err != api.OK {
			t.Fatalf("error %d", err)
		}
		for _, other := range dims {
			for _, whose := range []api.Kid{k, {}, {Size: 1}} {
				askWrong(t, s, whose, d, other)
			}
		}
	}
}

// askWrong asks a tree of points of d numbers as one of another dimension.
func askWrong(t *testing.T, s *page.Store, k api.Kid, d, other int) {
	t.Helper()
	want := wrong(k, d, other, other)
	rows, err := zbtree.Rows(s, k, other)
	if err != want || want != api.OK && len(rows) > 0 {
		t.Errorf("Rows: %d, error %d, not %d: %d, %d", rows, err, want, d, other)
	}
	height, err := zbtree.Height(s, k, other)
	if err != want || want != api.OK && height != 0 {
		t.Errorf("Height: %d, error %d, not %d: %d, %d", height, err, want, d, other)
	}
	for _, numbers := range []int{0, 1, d - 1, d, d + 1, 8, 9, 300} {
		want := wrong(k, d, numbers, other)
		ok, err := zbtree.Has(s, k, make(api.Row, numbers), other)
		if err != want || want != api.OK && ok {
			t.Errorf("Has: %t, error %d, not %d: %d, %d, %d", ok, err, want, d, other, numbers)
		}
	}
}
