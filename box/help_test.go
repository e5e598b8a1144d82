package box_test

import (
	"math"
	"math/rand"
	"slices"
	"testing"

	"indenture/api"
)

const (
	least    = math.MinInt64
	greatest = math.MaxInt64
)

// edges: where signs, halves and ends meet.
var edges = []int64{least, least + 1, -1 << 32, -3, -1, 0, 1, 2, 10, 1 << 32, greatest - 1, greatest}

// point tells a point of n numbers, edges and others mixed.
func point(random *rand.Rand, n int) api.Row {
	p := make(api.Row, n)
	for i := range p {
		p[i] = edges[random.Intn(len(edges))]
		if random.Intn(2) == 0 {
			p[i] = int64(random.Uint64()) >> random.Intn(64)
		}
	}
	return p
}

// wide tells a box of n dimensions that is right.
func wide(random *rand.Rand, n int) api.Box {
	b := api.Box{Lo: point(random, n), Hi: point(random, n)}
	for i := range n {
		b.Lo[i], b.Hi[i] = min(b.Lo[i], b.Hi[i]), max(b.Lo[i], b.Hi[i])
	}
	return b
}

// within tells a point of a box that is right, often one at its sides.
func within(random *rand.Rand, b api.Box) api.Row {
	p := point(random, len(b.Lo))
	for i := range p {
		p[i] = max(b.Lo[i], min(b.Hi[i], p[i]))
	}
	return p
}

func all(n int, x int64) api.Row {
	p := make(api.Row, n)
	for i := range p {
		p[i] = x
	}
	return p
}

func span(lo, hi api.Row) api.Box {
	return api.Box{Lo: lo, Hi: hi}
}

// grid tells all points of n numbers of a few ones.
func grid(n int, numbers ...int64) []api.Row {
	l := []api.Row{{}}
	for range n {
		var longer []api.Row
		for _, p := range l {
			for _, x := range numbers {
				longer = append(longer, append(slices.Clone(p), x))
			}
		}
		l = longer
	}
	return l
}

// boxes tells all boxes with corners of l, those that aren't right among them.
func boxes(l []api.Row) []api.Box {
	var out []api.Box
	for _, lo := range l {
		for _, hi := range l {
			out = append(out, span(lo, hi))
		}
	}
	return out
}

// inside says by the words alone whether a point is in a box. None is in one that isn't right.
func inside(b api.Box, p api.Row) bool {
	in := true
	for i, x := range p {
		in = in && b.Lo[i] <= x && x <= b.Hi[i]
	}
	return in
}

func turned(b api.Box) bool {
	for i := range b.Lo {
		if b.Lo[i] > b.Hi[i] {
			return true
		}
	}
	return false
}

// broken are boxes that aren't right for any dimensions.
func broken() map[string]api.Box {
	return map[string]api.Box{
		"zero":               {},
		"empty corners":      {Lo: api.Row{}, Hi: api.Row{}},
		"no Hi":              {Lo: api.Row{1}},
		"no Lo":              {Hi: api.Row{1}},
		"turned":             span(api.Row{2}, api.Row{1}),
		"turned edges":       span(api.Row{greatest}, api.Row{least}),
		"turned first":       span(api.Row{2, 1}, api.Row{1, 1}),
		"turned last":        span(api.Row{1, 1, 2}, api.Row{1, 1, 1}),
		"turned of 8":        span(api.Row{0, 0, 0, 0, 0, 0, 0, 1}, all(8, 0)),
		"Lo longer":          span(api.Row{1, 1}, api.Row{2}),
		"Hi longer":          span(api.Row{1}, api.Row{2, 2}),
		"of 9":               span(all(9, 1), all(9, 2)),
		"of 8 and 9":         span(all(8, 1), all(9, 2)),
		"of 17":              span(all(17, 1), all(17, 2)),
		"of 9 that's turned": span(all(9, 2), all(9, 1)),
	}
}

// wants holds a box against what it must be.
func wants(t *testing.T, what string, got api.Box, lo, hi api.Row) {
	t.Helper()
	if !slices.Equal(got.Lo, lo) || !slices.Equal(got.Hi, hi) {
		t.Errorf("%s: %d, not %d to %d", what, got, lo, hi)
	}
}
