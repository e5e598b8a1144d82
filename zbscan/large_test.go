package zbscan_test

import (
	"math/big"
	"runtime/debug"
	"slices"
	"testing"

	"indenture/api"
	"indenture/page"
	"indenture/zbscan"
)

// deep tells a tree that nobody's call made: Inners, each below another one, as its first kid or its last one, whose other kid is a Leaf of one row; its rows are the numbers from 0 on.
func deep(t *testing.T, s *page.Store, levels int64, first bool) api.Kid {
	t.Helper()
	one := func(x int64) api.Kid { return put(t, s, 1, leaf(api.Row{x})) }
	k := one(levels)
	if first {
		k = one(0)
	}
	for i := int64(1); i <= levels; i++ {
		kids := []api.Kid{one(levels - i), k}
		if first {
			kids = []api.Kid{k, one(i)}
		}
		k = put(t, s, 1, api.Node{Kind: api.Inner, Kids: kids})
	}
	return k
}

// P13.1 to P13.3: Inners that anybody made, each below another one, as deep as may be, are gone through to their end. What the stack may have is cut with the tree's share of what there may be.
func TestDeep(t *testing.T) {
	const levels = api.MaxBytes / 32
	defer debug.SetMaxStack(debug.SetMaxStack(1000000000 / 32))
	for _, first := range []bool{false, true} {
		s := page.New()
		k := deep(t, s, levels, first)
		for _, x := range []int64{0, 1, levels / 2, levels - 1, levels} {
			c := code(number(api.Row{x}), 1)
			if r, ok, err := zbscan.First(s, k, c, 1); !slices.Equal(r, api.Row{x}) || !ok || err != api.OK {
				t.Errorf("First from %d: %d, %t, error %d", x, r, ok, err)
			}
			if r, ok, err := zbscan.Last(s, k, c, 1); !slices.Equal(r, api.Row{x}) || !ok || err != api.OK {
				t.Errorf("Last up to %d: %d, %t, error %d", x, r, ok, err)
			}
		}
		if rows, looked, err := zbscan.Scan(s, k, whole(1), 1); len(rows) != levels+1 || looked != levels+1 || err != api.OK || rows[levels][0] != levels {
			t.Errorf("%d rows, %d looked at, error %d", len(rows), looked, err)
		}
		if rows, err := zbscan.Pieces(s, k, api.Box{Lo: api.Row{5}, Hi: api.Row{greatest}}, 1, 10); len(rows) != levels-4 || err != api.OK || rows[0][0] != 5 {
			t.Errorf("%d rows, error %d", len(rows), err)
		}
	}
}

// P13.1, P13.2: a tree of MaxBytes rows by its kids' words, of which most nodes aren't there: those that aren't needed needn't be.
func TestFullByWords(t *testing.T) {
	s := page.New()
	row := func(x int64) api.Row { return api.Row{x, x} }
	last := put(t, s, 2, leaf(row(100), row(101)))
	closed := api.Kid{Sum: api.Digest{9}, Live: api.MaxBytes - 4, Size: api.MaxBytes - 4, Box: span(row(8), row(99)), Key: row(8)}
	x := &tree{listed(2, []api.Row{row(0), row(1)}), s, put(t, s, 2, api.Node{Kind: api.Inner, Kids: []api.Kid{put(t, s, 2, leaf(row(0), row(1))), closed, last}})}
	if x.kid.Size != api.MaxBytes {
		t.Fatalf("%+v", x.kid)
	}
	for _, at := range []api.Row{row(least), row(0), {0, 1}, row(1)} {
		c := number(at)
		if r, ok, err := zbscan.First(s, x.kid, code(c, 2), 2); !slices.Equal(r, x.rows[x.from(c)]) || !ok || err != api.OK {
			t.Errorf("First from %d: %d, %t, error %d", at, r, ok, err)
		}
	}
	for _, at := range []api.Row{row(7), row(1), row(102), row(100)} {
		want := row(1)
		if at[0] >= 100 {
			want = row(min(at[0], 101))
		}
		if r, ok, err := zbscan.Last(s, x.kid, code(number(at), 2), 2); !slices.Equal(r, want) || !ok || err != api.OK {
			t.Errorf("Last up to %d: %d, %t, error %d", at, r, ok, err)
		}
	}
	for _, b := range []api.Box{span(row(0), row(1)), span(row(1), row(1))} {
		x.scanIs(t, b)
		x.piecesAre(t, b, 10)
	}
	scanRefused(t, s, x.kid, span(row(1), row(2)), 2, api.ErrForm)
	firstRefused(t, s, x.kid, code(new(big.Int).Sub(number(row(100)), one), 2), 2, api.ErrForm)
}
