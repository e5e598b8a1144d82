package zbscan_test

import (
	"math/big"
	"math/rand"
	"testing"

	"indenture/api"
	"indenture/page"
	"indenture/zbscan"
)

// P13.2: the chapter's example, and others by hand.
func TestScanKnown(t *testing.T) {
	numbers := known(t, -5, -1, 0, 3, 8, 9, 20)
	corners := built(t, 2, []api.Row{{least, least}, {least, greatest}, {greatest, least}, {greatest, greatest}})
	last := built(t, 3, []api.Row{all(3, greatest)})
	for _, k := range []struct {
		tree   *tree
		lo, hi api.Row
		want   []api.Row
		looked int
	}{
		{example(t), api.Row{0, 0}, api.Row{2, 0}, []api.Row{{0, 0}, {2, 0}}, 3},
		{example(t), api.Row{0, 0}, api.Row{0, 0}, []api.Row{{0, 0}}, 1},
		{example(t), api.Row{1, 0}, api.Row{1, 0}, nil, 1},
		{example(t), api.Row{3, 3}, api.Row{9, 9}, nil, 0},
		{example(t), api.Row{-9, -9}, api.Row{-1, 9}, nil, 1},
		{example(t), api.Row{0, 0}, api.Row{1, 1}, []api.Row{{0, 0}, {0, 1}, {1, 1}}, 3}, // behind (1, 1) there's no code in the box any more
		{example(t), api.Row{0, 0}, api.Row{2, 2}, []api.Row{{0, 0}, {0, 1}, {1, 1}, {2, 0}}, 4},
		{example(t), api.Row{1, 0}, api.Row{2, 0}, []api.Row{{2, 0}}, 2},
		{example(t), api.Row{0, 1}, api.Row{0, 3}, []api.Row{{0, 1}}, 2}, // and (2, 0), which is behind (0, 3)
		{example(t), all(2, least), all(2, greatest), []api.Row{{0, 0}, {0, 1}, {1, 1}, {2, 0}}, 4},
		{numbers, api.Row{-1}, api.Row{8}, []api.Row{{-1}, {0}, {3}, {8}}, 4},
		{numbers, api.Row{-1}, api.Row{10}, []api.Row{{-1}, {0}, {3}, {8}, {9}}, 6}, // and 20, which is behind 10
		{numbers, api.Row{-4}, api.Row{-2}, nil, 1},
		{numbers, api.Row{9}, api.Row{greatest}, []api.Row{{9}, {20}}, 2},
		{numbers, api.Row{21}, api.Row{greatest}, nil, 0},
		{numbers, api.Row{least}, api.Row{-6}, nil, 1},
		{corners, all(2, least), all(2, greatest), []api.Row{{least, least}, {least, greatest}, {greatest, least}, {greatest, greatest}}, 4},
		{corners, api.Row{least, greatest}, all(2, greatest), []api.Row{{least, greatest}, {greatest, greatest}}, 3},
		{corners, api.Row{least, least}, api.Row{least, greatest}, []api.Row{{least, least}, {least, greatest}}, 2},
		{corners, api.Row{0, least}, api.Row{greatest, 5}, []api.Row{{greatest, least}}, 2},
		{last, all(3, greatest), all(3, greatest), []api.Row{all(3, greatest)}, 1},
		{last, all(3, least), all(3, greatest-1), nil, 1},
	} {
		b := api.Box{Lo: k.lo, Hi: k.hi}
		rows, looked, err := zbscan.Scan(k.tree.store, k.tree.kid, b, k.tree.d)
		if !alike(rows, k.want) || looked != k.looked || err != api.OK {
			t.Errorf("%d: %d, %d looked at, error %d, not %d, %d", b, rows, looked, err, k.want, k.looked)
		}
		k.tree.scanIs(t, b)
	}
}

// P13.2: of the empty tree no row is told or looked at.
func TestScanOfNone(t *testing.T) {
	random := rand.New(rand.NewSource(1))
	for d := 1; d <= 8; d++ {
		for _, empty := range []api.Kid{{}, {Box: api.Box{Lo: api.Row{}, Hi: api.Row{}}, Key: api.Row{}}} {
			x := &tree{listed(d, nil), page.New(), empty}
			for _, b := range x.boxes(random) {
				if s := x.scanIs(t, b); len(s.looked) > 0 {
					t.Errorf("%d", s.looked)
				}
			}
		}
	}
}

// P13.2: many trees by boxes of all kinds: that have no row, one, some, or all, that are one point, the whole space, and thin ones.
func TestScan(t *testing.T) {
	random := rand.New(rand.NewSource(2))
	met := map[string]int{}
	for d := 1; d <= 8; d++ {
		for _, x := range trees(t, random, d) {
			for _, b := range x.boxes(random) {
				s := x.scanIs(t, b)
				met[kind(x, s)]++
				if len(s.looked) > len(s.rows)+1 {
					met["skipped"]++
				}
			}
		}
	}
	for _, kind := range []string{"none", "one", "some", "all", "skipped"} {
		if met[kind] < 100 {
			t.Errorf("%s: %d", kind, met[kind])
		}
	}
}

// kind tells how many of a tree's rows a scan tells.
func kind(x *tree, s scanned) string {
	switch len(s.rows) {
	case 0:
		return "none"
	case len(x.rows):
		return "all"
	case 1:
		return "one"
	}
	return "some"
}

// window tells the points of d numbers from a number on, so many a side.
func window(d int, from, width int64) []api.Row {
	l := []api.Row{{}}
	for range d {
		var longer []api.Row
		for _, p := range l {
			for x := range width {
				longer = append(longer, append(append(api.Row{}, p...), from+x))
			}
		}
		l = longer
	}
	return l
}

// windowBoxes tells all boxes of points of a window.
func windowBoxes(d int, from, width int64) []api.Box {
	var l []api.Box
	for _, p := range window(d, from, width) {
		for _, q := range window(d, from, width) {
			if b := span(p, q); alike([]api.Row{p, q}, []api.Row{b.Lo, b.Hi}) {
				l = append(l, b)
			}
		}
	}
	return l
}

// part tells some of a list, each by chance.
func part(random *rand.Rand, l []api.Row, of int) []api.Row {
	var some []api.Row
	for _, p := range l {
		if random.Intn(of) == 0 {
			some = append(some, p)
		}
	}
	return some
}

// P13.2: all boxes of a window, of trees of all its points, and of some of them; where the signs meet, and at the ends of all numbers.
func TestScanWindows(t *testing.T) {
	random := rand.New(rand.NewSource(3))
	for _, k := range []struct {
		d     int
		width int64
	}{{1, 9}, {2, 5}, {3, 3}, {4, 2}, {5, 2}} {
		for _, from := range []int64{-2, 0, 7, least, greatest - k.width + 1} {
			points := window(k.d, from, k.width)
			for of := 1; of <= 3; of++ {
				x := built(t, k.d, part(random, points, of))
				for _, b := range windowBoxes(k.d, from, k.width) {
					x.scanIs(t, b)
				}
			}
		}
	}
}

// P13.2: the first code in a box by the tests' words is the first one of its points' codes: what the scans are held against.
func TestFirstInBox(t *testing.T) {
	for _, b := range windowBoxes(2, -2, 4) {
		var codes []*big.Int
		for _, p := range window(2, -2, 4) {
			if has(b, p) {
				codes = append(codes, number(p))
			}
		}
		for _, p := range window(2, -3, 6) {
			c := number(p)
			var want *big.Int
			for _, other := range codes {
				if other.Cmp(c) >= 0 && (want == nil || other.Cmp(want) < 0) {
					want = other
				}
			}
			if got := firstIn(c, b); (got == nil) != (want == nil) || got != nil && got.Cmp(want) != 0 {
				t.Errorf("from %d on in %d: %d, not %d", p, b, got, want)
			}
		}
	}
}

// P13.2: grids by each of their lines, which are thin boxes: of one side's lines the codes lie far apart.
func TestScanLines(t *testing.T) {
	for _, k := range []struct {
		d     int
		width int64
	}{{2, 16}, {3, 6}} {
		x := built(t, k.d, window(k.d, -3, k.width))
		for side := range k.d {
			for _, p := range window(k.d, -3, k.width) {
				if p[side] != -3 {
					continue
				}
				b := span(p, p)
				b.Hi[side] = -3 + k.width - 1
				if s := x.scanIs(t, b); len(s.rows) != int(k.width) {
					t.Errorf("%d: %d", b, s.rows)
				}
				b.Lo[side], b.Hi[side] = least, greatest
				x.scanIs(t, b)
			}
		}
	}
}
