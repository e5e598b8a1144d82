package zbscan_test

import (
	"math/big"
	"math/rand"
	"slices"
	"testing"

	"indenture/api"
	"indenture/morton"
	"indenture/page"
	"indenture/zbscan"
)

// example is the chapter's tree.
func example(t *testing.T) *tree {
	t.Helper()
	return built(t, 2, []api.Row{{0, 0}, {0, 1}, {1, 1}, {2, 0}})
}

// P13.1: by hand, at the codes of points.
func TestFirstKnown(t *testing.T) {
	two := built(t, 2, []api.Row{{0, 0}, {0, 1}, {1, 1}, {2, 0}, {-1, 5}, {4, 4}, {4, 5}}) // by codes (-1, 5), (0, 0), (0, 1), (1, 1) and (2, 0), (4, 4), (4, 5)
	numbers := known(t, -5, -1, 0, 3, 8, 9, 20)                                            // -5, -1, 0, 3 and 8, 9, 20
	for _, k := range []struct {
		tree            *tree
		at, first, last api.Row
	}{
		{example(t), api.Row{0, 0}, api.Row{0, 0}, api.Row{0, 0}},
		{example(t), api.Row{0, 1}, api.Row{0, 1}, api.Row{0, 1}},
		{example(t), api.Row{1, 0}, api.Row{1, 1}, api.Row{0, 1}},
		{example(t), api.Row{1, 1}, api.Row{1, 1}, api.Row{1, 1}},
		{example(t), api.Row{0, 2}, api.Row{2, 0}, api.Row{1, 1}}, // its code stands behind that of (1, 1)
		{example(t), api.Row{0, 3}, api.Row{2, 0}, api.Row{1, 1}},
		{example(t), api.Row{2, 0}, api.Row{2, 0}, api.Row{2, 0}},
		{example(t), api.Row{2, 1}, nil, api.Row{2, 0}},
		{example(t), api.Row{-1, 9}, api.Row{0, 0}, nil},
		{example(t), api.Row{greatest, greatest}, nil, api.Row{2, 0}},
		{example(t), api.Row{least, least}, api.Row{0, 0}, nil},
		{two, api.Row{1, 2}, api.Row{2, 0}, api.Row{1, 1}},
		{two, api.Row{2, 0}, api.Row{2, 0}, api.Row{2, 0}},
		{two, api.Row{-1, 5}, api.Row{-1, 5}, api.Row{-1, 5}},
		{two, api.Row{-1, 4}, api.Row{-1, 5}, nil},
		{two, api.Row{-1, 6}, api.Row{0, 0}, api.Row{-1, 5}},
		{two, api.Row{3, 3}, api.Row{4, 4}, api.Row{2, 0}},
		{two, api.Row{5, 4}, nil, api.Row{4, 5}},
		{numbers, api.Row{-6}, api.Row{-5}, nil},
		{numbers, api.Row{-5}, api.Row{-5}, api.Row{-5}},
		{numbers, api.Row{-2}, api.Row{-1}, api.Row{-5}},
		{numbers, api.Row{3}, api.Row{3}, api.Row{3}},
		{numbers, api.Row{4}, api.Row{8}, api.Row{3}}, // between both Leaves
		{numbers, api.Row{7}, api.Row{8}, api.Row{3}},
		{numbers, api.Row{8}, api.Row{8}, api.Row{8}},
		{numbers, api.Row{20}, api.Row{20}, api.Row{20}},
		{numbers, api.Row{21}, nil, api.Row{20}},
	} {
		c, err := morton.Code(k.at)
		if err != api.OK {
			t.Fatalf("error %d", err)
		}
		d := len(k.at)
		if r, ok, err := zbscan.First(k.tree.store, k.tree.kid, c, d); !slices.Equal(r, k.first) || ok != (k.first != nil) || err != api.OK {
			t.Errorf("First at %d: %d, %t, error %d, not %d", k.at, r, ok, err, k.first)
		}
		if r, ok, err := zbscan.Last(k.tree.store, k.tree.kid, c, d); !slices.Equal(r, k.last) || ok != (k.last != nil) || err != api.OK {
			t.Errorf("Last at %d: %d, %t, error %d, not %d", k.at, r, ok, err, k.last)
		}
	}
}

// P13.1: of the empty tree there is none, at whatever code.
func TestFirstOfNone(t *testing.T) {
	random := rand.New(rand.NewSource(1))
	for _, d := range []int{1, 2, 3, 4, 5, 6, 7, 8} {
		for _, empty := range []api.Kid{{}, {Box: api.Box{Lo: api.Row{}, Hi: api.Row{}}, Key: api.Row{}}} {
			x := &tree{listed(d, nil), page.New(), empty}
			for _, c := range x.around(random) {
				x.firstIs(t, c)
			}
		}
	}
}

// P13.1: at the codes of each row of many trees, behind them and ahead of them, at the first and the last code of all, and at others.
func TestFirstAndLast(t *testing.T) {
	random := rand.New(rand.NewSource(2))
	heights := map[int]int{}
	for d := 1; d <= 8; d++ {
		for _, x := range trees(t, random, d) {
			heights[x.height(t)]++
			for _, c := range x.around(random) {
				x.firstIs(t, c)
			}
		}
	}
	for h := range 6 {
		if heights[h] < 20 && h < 5 || heights[h] == 0 {
			t.Errorf("%d trees of height %d", heights[h], h)
		}
	}
}

// P13.1: trees of each number of rows, which stand at each second code, at all codes from ahead of them on: laid ones, and those that grew.
func TestFirstInEachTree(t *testing.T) {
	random := rand.New(rand.NewSource(3))
	for n := range 70 {
		var rows []api.Row
		for i := range n {
			rows = append(rows, point(big.NewInt(int64(2*i+5)), 3))
		}
		for _, x := range []*tree{built(t, 3, rows), grown(t, random, 3, rows)} {
			for c := range int64(2*n + 8) {
				x.firstIs(t, big.NewInt(c))
			}
		}
	}
}

// P13.1: at each bit in which codes may be unlike first.
func TestFirstAtEachBit(t *testing.T) {
	for d := 1; d <= 8; d++ {
		var rows []api.Row
		for bit := range 64 * d {
			rows = append(rows, point(new(big.Int).Lsh(one, uint(bit)), d))
		}
		x := built(t, d, rows)
		for bit := range 64 * d {
			c := new(big.Int).Lsh(one, uint(bit))
			x.firstIs(t, c)
			x.firstIs(t, new(big.Int).Sub(c, one))
			x.firstIs(t, c.Add(c, one))
		}
	}
}
