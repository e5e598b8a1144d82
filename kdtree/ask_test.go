package kdtree_test

import (
	"math/rand"
	"testing"

	"indenture/api"
	"indenture/kdtree"
	"indenture/page"
)

// P11.4: of the empty tree no rows, no height, and no point is in it; nothing is put.
func TestAskEmpty(t *testing.T) {
	for d := 1; d <= 8; d++ {
		s := page.New()
		is(t, s, api.Kid{}, nil, d, d)
		has(t, s, api.Kid{}, nil, d, []api.Row{make(api.Row, d)}, d)
		empty := api.Kid{Box: api.Box{Lo: api.Row{}, Hi: api.Row{}}, Key: api.Row{}}
		is(t, s, empty, nil, d, d)
		has(t, s, empty, nil, d, []api.Row{make(api.Row, d)}, d)
	}
}

// P11.4: rows stand by their ids, of one id by the next number, and so on; tombstones aren't among them, but the height has their Forks.
func TestAskKnown(t *testing.T) {
	s := page.New()
	k, _ := kdtree.Build(s, []api.Row{{2, 5}, {1, 9}, {-3, 7}, {2, -5}, {1, 8}, {2, 4}}, 2)
	k, _ = kdtree.Delete(s, k, api.Row{2, 4}, 2)
	rows, err := kdtree.Rows(s, k, 2)
	if want := []api.Row{{-3, 7}, {1, 8}, {1, 9}, {2, -5}, {2, 5}}; !alikeRows(rows, want) || err != api.OK {
		t.Errorf("%d, error %d", rows, err)
	}
	if height, err := kdtree.Height(s, k, 2); height != 3 || err != api.OK {
		t.Errorf("%d, error %d", height, err)
	}
	for _, x := range []struct {
		row  api.Row
		want bool
	}{{api.Row{2, 5}, true}, {api.Row{2, 4}, false}, {api.Row{5, 2}, false}, {api.Row{2, -5}, true}, {api.Row{-3, 7}, true}, {api.Row{-3, 8}, false}} {
		if ok, err := kdtree.Has(s, k, x.row, 2); ok != x.want || err != api.OK {
			t.Errorf("%d: %t, error %d", x.row, ok, err)
		}
	}
}

// P11.4: after each step of scripts of chance, of points of each dimension: which rows are there, of all that there may be, the rows in order, and the height.
func TestAskAfterEachStep(t *testing.T) {
	random := rand.New(rand.NewSource(1))
	for d := 1; d <= 8; d++ {
		of := [][]int64{{-4, -3, -2, -1, 0, 1, 2, 3, 4, 5}, wide[:4], {0, 1, 2}, {0, 1}}[min(d, 4)-1]
		for range 3 {
			c := begin(d)
			var all []api.Row
			for range 60 {
				all = append(all, point(random, d, of))
			}
			for _, p := range all {
				if random.Intn(3) > 0 {
					c.insert(t, p)
				} else {
					c.delete(t, all[random.Intn(len(all))])
				}
				c.is(t, d, p)
				has(t, c.store, c.kid, c.tree, d, all, d, p)
			}
		}
	}
}

// P11.4: points that have too few numbers or too many, and dimensions that there aren't: ErrArg, whatever the tree is.
func TestAskWrong(t *testing.T) {
	random := rand.New(rand.NewSource(2))
	for d := 1; d <= 8; d++ {
		s := page.New()
		k, err := kdtree.Build(s, points(random, d, 5, narrow), d)
		if err != api.OK {
			t.Fatalf("error %d", err)
		}
		for _, other := range dims {
			there := other >= 1 && other <= 8
			for _, whose := range []api.Kid{k, {}, {Size: 1}} {
				var want api.Errno
				switch {
				case !there:
					want = api.ErrArg
				case whose.Size == 1, whose.Size > 1 && other != d:
					want = api.ErrForm
				}
				rows, err := kdtree.Rows(s, whose, other)
				if err != want || want != api.OK && len(rows) > 0 {
					t.Errorf("Rows: %d, error %d, not %d: %d, %d", rows, err, want, d, other)
				}
				height, err := kdtree.Height(s, whose, other)
				if err != want || want != api.OK && height != 0 {
					t.Errorf("Height: %d, error %d, not %d: %d, %d", height, err, want, d, other)
				}
				for _, numbers := range []int{0, 1, d - 1, d, d + 1, 8, 9, 300} {
					want := want
					if numbers != other {
						want = api.ErrArg
					}
					ok, err := kdtree.Has(s, whose, make(api.Row, numbers), other)
					if err != want || want != api.OK && ok {
						t.Errorf("Has: %t, error %d, not %d: %d, %d, %d", ok, err, want, d, other, numbers)
					}
				}
			}
		}
	}
}
