package dist_test

import (
	"math"
	"math/big"
	"math/rand"
	"slices"
	"testing"

	"indenture/api"
	"indenture/dist"
)

const (
	least    = math.MinInt64
	greatest = math.MaxInt64
)

// edges: where signs, halves and ends meet.
var edges = []int64{least, least + 1, -1 << 32, -3, -1, 0, 1, 2, 10, 1 << 32, greatest - 1, greatest}

// apart reckons with numbers that have no bound.
func apart(a, b int64) *big.Int {
	d := new(big.Int).Sub(big.NewInt(a), big.NewInt(b))
	return d.Abs(d)
}

func wide(n uint64) *big.Int {
	return new(big.Int).SetUint64(n)
}

func whole(d api.Dist) *big.Int {
	n := new(big.Int).Lsh(wide(d.Hi), 64)
	return n.Add(n, wide(d.Lo))
}

// point tells a point of n numbers, edges and others mixed.
func point(random *rand.Rand, n int) api.Row {
	p := make(api.Row, n)
	for i := range p {
		p[i] = edges[random.Intn(len(edges))]
		if random.Intn(2) == 0 {
			p[i] = int64(random.Uint64()) >> random.Intn(64)
		}
	}
	return p
}

func all(n int, x int64) api.Row {
	p := make(api.Row, n)
	for i := range p {
		p[i] = x
	}
	return p
}

// P3.1
func TestApart(t *testing.T) {
	if got := dist.Apart(least, greatest); got != math.MaxUint64 {
		t.Errorf("the ends: %d", got)
	}
	if got := dist.Apart(greatest, least); got != math.MaxUint64 {
		t.Errorf("the ends, turned: %d", got)
	}
	if got := dist.Apart(least, 0); got != 1<<63 {
		t.Errorf("the least: %d", got)
	}
	for _, a := range edges {
		for _, b := range edges {
			if got := dist.Apart(a, b); wide(got).Cmp(apart(a, b)) != 0 {
				t.Errorf("%d, %d: %d", a, b, got)
			}
		}
	}
	random := rand.New(rand.NewSource(1))
	for range 1000 {
		p := point(random, 2)
		if got := dist.Apart(p[0], p[1]); wide(got).Cmp(apart(p[0], p[1])) != 0 {
			t.Errorf("%d, %d: %d", p[0], p[1], got)
		}
	}
}

// P3.1
func TestGapKnown(t *testing.T) {
	known := []struct {
		x, lo, hi int64
		want      uint64
	}{
		{0, 1, 3, 1}, {1, 1, 3, 0}, {2, 1, 3, 0}, {3, 1, 3, 0}, {4, 1, 3, 1}, {9, 2, 5, 4},
		{5, 5, 5, 0}, {4, 5, 5, 1}, {6, 5, 5, 1},
		{least, greatest, greatest, math.MaxUint64}, {greatest, least, least, math.MaxUint64},
		{least, least, greatest, 0}, {greatest, least, greatest, 0},
		// hi less than lo: from lo, if x is less than it, else from hi.
		{0, 5, 3, 5}, {3, 5, 3, 2}, {4, 5, 3, 1}, {5, 5, 3, 2}, {9, 5, 3, 6},
		{least, greatest, least, math.MaxUint64}, {greatest, greatest, least, math.MaxUint64}, {0, greatest, least, greatest},
		{least, least + 1, least, 1}, {greatest, greatest, greatest - 1, 1}, {least, least + 5, least, 5},
	}
	for _, k := range known {
		if got := dist.Gap(k.x, k.lo, k.hi); got != k.want {
			t.Errorf("%d from %d to %d: %d", k.x, k.lo, k.hi, got)
		}
	}
}

// gap says P3.1's words as they stand.
func gap(x, lo, hi int64) *big.Int {
	switch {
	case lo <= x && x <= hi:
		return big.NewInt(0)
	case hi < lo && x < lo:
		return apart(x, lo)
	case hi < lo:
		return apart(x, hi)
	}
	l, h := apart(x, lo), apart(x, hi)
	if l.Cmp(h) < 0 {
		return l
	}
	return h
}

// P3.1
func TestGapAll(t *testing.T) {
	for _, x := range edges {
		for _, lo := range edges {
			for _, hi := range edges {
				if got := dist.Gap(x, lo, hi); wide(got).Cmp(gap(x, lo, hi)) != 0 {
					t.Errorf("%d from %d to %d: %d", x, lo, hi, got)
				}
			}
		}
	}
}

// P3.1: of a few numbers the nearest one is sought one by one.
func TestGapNearest(t *testing.T) {
	for x := int64(-6); x <= 6; x++ {
		for lo := int64(-4); lo <= 4; lo++ {
			for hi := lo; hi <= 4; hi++ {
				nearest := uint64(math.MaxUint64)
				for n := lo; n <= hi; n++ {
					nearest = min(nearest, dist.Apart(x, n))
				}
				if got := dist.Gap(x, lo, hi); got != nearest {
					t.Errorf("%d from %d to %d: %d", x, lo, hi, got)
				}
			}
		}
	}
}

// P3.3
func TestBetweenKnown(t *testing.T) {
	known := []struct {
		p, q api.Row
		want api.Dist
	}{
		{api.Row{0, 0}, api.Row{3, -4}, api.Dist{Lo: 7}},
		{api.Row{5}, api.Row{5}, api.Dist{}},
		{api.Row{least}, api.Row{greatest}, api.Dist{Lo: math.MaxUint64}},
		{api.Row{least, greatest}, api.Row{greatest, least}, api.Dist{Hi: 1, Lo: math.MaxUint64 - 1}},
		{api.Row{least, 0}, api.Row{greatest, 1}, api.Dist{Hi: 1}},
		{all(8, least), all(8, greatest), api.Dist{Hi: 7, Lo: math.MaxUint64 - 7}},
		{api.Row{1, 2, 3, 4, 5, 6, 7, 8}, all(8, 0), api.Dist{Lo: 36}},
	}
	for _, k := range known {
		if got, err := dist.Between(k.p, k.q); got != k.want || err != api.OK {
			t.Errorf("%d, %d: %d, %d", k.p, k.q, got, err)
		}
	}
}

// P3.3: ordinary points and edges, of each count of numbers.
func TestBetweenAll(t *testing.T) {
	random := rand.New(rand.NewSource(2))
	for n := 1; n <= api.MaxDims; n++ {
		for range 300 {
			p, q := point(random, n), point(random, n)
			want := new(big.Int)
			for i := range p {
				want.Add(want, apart(p[i], q[i]))
			}
			if got, err := dist.Between(p, q); whole(got).Cmp(want) != 0 || err != api.OK {
				t.Errorf("%d, %d: %d, %d", p, q, got, err)
			}
		}
	}
}

// P3.3: from 1 to 8 numbers on both sides, and as many; else ErrArg and no distance.
func TestBetweenRefused(t *testing.T) {
	for m := range 18 {
		for n := range 18 {
			want := api.OK
			if m != n || n < 1 || n > 8 {
				want = api.ErrArg
			}
			got, err := dist.Between(all(m, 1), all(n, 3))
			if err != want {
				t.Errorf("%d and %d numbers: error %d", m, n, err)
			}
			if err != api.OK && got != (api.Dist{}) {
				t.Errorf("%d and %d numbers: %d beside an error", m, n, got)
			}
		}
	}
	for _, pair := range [][2]api.Row{{nil, nil}, {nil, {}}, {nil, {1}}, {{1}, nil}} {
		if got, err := dist.Between(pair[0], pair[1]); err != api.ErrArg || got != (api.Dist{}) {
			t.Errorf("%v: %d, %d", pair, got, err)
		}
	}
}

// P3.3
func TestToBoxKnown(t *testing.T) {
	known := []struct {
		p, lo, hi api.Row
		want      api.Dist
	}{
		{api.Row{0, 9}, api.Row{1, 2}, api.Row{3, 5}, api.Dist{Lo: 5}},
		{api.Row{2, 3}, api.Row{1, 2}, api.Row{3, 5}, api.Dist{}},
		{api.Row{1, 5}, api.Row{1, 2}, api.Row{3, 5}, api.Dist{}},
		{api.Row{4, 1}, api.Row{1, 2}, api.Row{3, 5}, api.Dist{Lo: 2}},
		{api.Row{0, 9}, api.Row{3, 5}, api.Row{1, 2}, api.Dist{Lo: 10}}, // corners turned: 3 and 7
		{api.Row{least, greatest}, api.Row{greatest, least}, api.Row{greatest, least}, api.Dist{Hi: 1, Lo: math.MaxUint64 - 1}},
		{all(8, 7), all(8, least), all(8, greatest), api.Dist{}},
		{all(8, least), all(8, greatest), all(8, greatest), api.Dist{Hi: 7, Lo: math.MaxUint64 - 7}},
	}
	for _, k := range known {
		if got, err := dist.ToBox(k.p, api.Box{Lo: k.lo, Hi: k.hi}); got != k.want || err != api.OK {
			t.Errorf("%d from %d to %d: %d, %d", k.p, k.lo, k.hi, got, err)
		}
	}
}

// P3.3: ordinary points and edges, of each count of numbers; sides whose hi is less than their lo too.
func TestToBoxAll(t *testing.T) {
	random := rand.New(rand.NewSource(3))
	for n := 1; n <= api.MaxDims; n++ {
		for range 300 {
			p, lo, hi := point(random, n), point(random, n), point(random, n)
			want := new(big.Int)
			for i := range p {
				want.Add(want, gap(p[i], lo[i], hi[i]))
			}
			if got, err := dist.ToBox(p, api.Box{Lo: lo, Hi: hi}); whole(got).Cmp(want) != 0 || err != api.OK {
				t.Errorf("%d from %d to %d: %d, %d", p, lo, hi, got, err)
			}
		}
	}
}

// P3.3: the point and both corners have from 1 to 8 numbers, and as many; else ErrArg and no distance.
func TestToBoxRefused(t *testing.T) {
	for m := range 11 {
		for l := range 11 {
			for h := range 11 {
				want := api.OK
				if m != l || m != h || m < 1 || m > 8 {
					want = api.ErrArg
				}
				got, err := dist.ToBox(all(m, 9), api.Box{Lo: all(l, 1), Hi: all(h, 3)})
				if err != want {
					t.Errorf("%d numbers, corners of %d and %d: error %d", m, l, h, err)
				}
				if err != api.OK && got != (api.Dist{}) {
					t.Errorf("%d numbers, corners of %d and %d: %d beside an error", m, l, h, got)
				}
			}
		}
	}
	for _, b := range []api.Box{{}, {Lo: api.Row{1}}, {Hi: api.Row{1}}} {
		for _, p := range []api.Row{nil, {}, {1}} {
			if got, err := dist.ToBox(p, b); err != api.ErrArg || got != (api.Dist{}) {
				t.Errorf("%v from %v: %d, %d", p, b, got, err)
			}
		}
	}
}

// P3.1 to P3.3: what is handed in stays as it is, its spare room too; nor does what stands in spare room count.
func TestArgumentsStay(t *testing.T) {
	p, q, hi := api.Row{1, 2, 3, 4}, api.Row{5, 7, 9, 11}, api.Row{6, 8, 10, 12}
	l := []uint64{1, 2, 3}
	d, _ := dist.Between(p[:2], q[:2])
	e, _ := dist.ToBox(p[:2], api.Box{Lo: q[:2], Hi: hi[:2]})
	if s := dist.Sum(l[:2]); d.Lo != 9 || e.Lo != 9 || s.Lo != 3 {
		t.Error(d, e, s)
	}
	if !slices.Equal(p, api.Row{1, 2, 3, 4}) || !slices.Equal(q, api.Row{5, 7, 9, 11}) || !slices.Equal(hi, api.Row{6, 8, 10, 12}) || !slices.Equal(l, []uint64{1, 2, 3}) {
		t.Error("an argument was changed")
	}
}
