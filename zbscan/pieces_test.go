package zbscan_test

import (
	"math"
	"math/rand"
	"testing"

	"indenture/api"
	"indenture/page"
	"indenture/zbscan"
)

// P13.3: by hand: the same rows in the same order at each depth.
func TestPiecesKnown(t *testing.T) {
	for depth := range 11 {
		for _, k := range []struct {
			lo, hi api.Row
			want   []api.Row
		}{
			{api.Row{0, 0}, api.Row{2, 0}, []api.Row{{0, 0}, {2, 0}}},
			{api.Row{0, 0}, api.Row{2, 1}, []api.Row{{0, 0}, {0, 1}, {1, 1}, {2, 0}}},
			{api.Row{1, 0}, api.Row{2, 1}, []api.Row{{1, 1}, {2, 0}}},
			{api.Row{3, 3}, api.Row{4, 4}, nil},
			{all(2, least), all(2, greatest), []api.Row{{0, 0}, {0, 1}, {1, 1}, {2, 0}}},
		} {
			x := example(t)
			b := api.Box{Lo: k.lo, Hi: k.hi}
			if rows, err := zbscan.Pieces(x.store, x.kid, b, 2, depth); !alike(rows, k.want) || err != api.OK {
				t.Errorf("%d, %d deep: %d, error %d, not %d", b, depth, rows, err, k.want)
			}
		}
	}
}

// P13.3: many trees by boxes of all kinds, at each depth: the same rows in the same order as by Scan.
func TestPieces(t *testing.T) {
	random := rand.New(rand.NewSource(1))
	many := 0
	for d := 1; d <= 8; d++ {
		for i, x := range trees(t, random, d) {
			for j, b := range x.boxes(random) {
				switch {
				case (i+j)%40 == 0:
					for depth := range 11 {
						x.piecesAre(t, b, depth)
					}
				case (i+j)%4 == 0:
					x.piecesAre(t, b, j%11)
				}
				many += len(x.in(b))
			}
		}
	}
	if many < 1000 {
		t.Errorf("%d rows", many)
	}
}

// P13.3: all boxes of a window.
func TestPiecesWindows(t *testing.T) {
	random := rand.New(rand.NewSource(2))
	for _, k := range []struct {
		d     int
		width int64
	}{{1, 6}, {2, 4}, {3, 2}} {
		for _, from := range []int64{-2, 0, least, greatest - k.width + 1} {
			x := built(t, k.d, part(random, window(k.d, from, k.width), 2))
			for _, b := range windowBoxes(k.d, from, k.width) {
				for depth := range 11 {
					x.piecesAre(t, b, depth)
				}
			}
		}
	}
}

// P13.3: of the empty tree no rows.
func TestPiecesOfNone(t *testing.T) {
	random := rand.New(rand.NewSource(3))
	for d := 1; d <= 8; d++ {
		x := &tree{listed(d, nil), page.New(), api.Kid{}}
		for _, b := range x.boxes(random) {
			for _, depth := range []int{0, 1, 2, 10} {
				x.piecesAre(t, b, depth)
			}
		}
	}
}

// P13.3: ErrArg, if depth isn't from 0 to 10, whatever else is; also where the root can't be got.
func TestPiecesDepths(t *testing.T) {
	for d := 1; d <= 8; d++ {
		x := built(t, d, []api.Row{all(d, 1), all(d, 5)})
		for _, depth := range []int{math.MinInt, math.MinInt32, -256, -11, -10, -2, -1, 11, 12, 20, 64, 255, 256, 1 << 32, math.MaxInt} {
			for _, b := range []api.Box{whole(d), span(all(d, 1), all(d, 1)), span(all(d, 0), all(d, 6))} {
				piecesRefused(t, x.store, x.kid, b, d, depth, api.ErrArg, b)
				piecesRefused(t, page.New(), x.kid, b, d, depth, api.ErrArg, b)
				piecesRefused(t, page.New(), api.Kid{}, b, d, depth, api.ErrArg, b)
			}
		}
		for depth := range 11 {
			x.piecesAre(t, whole(d), depth)
		}
	}
}
