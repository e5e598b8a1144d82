package zrange_test

import (
	"bytes"
	"math"
	"math/big"
	"math/rand"
	"slices"
	"testing"

	"indenture/api"
	"indenture/box"
	"indenture/morton"
	"indenture/zrange"
)

const (
	least    = math.MinInt64
	greatest = math.MaxInt64
)

// edges: where signs, halves and ends meet.
var edges = []int64{least, least + 1, -1 << 32, -3, -1, 0, 1, 2, 10, 1 << 32, greatest - 1, greatest}

// point tells a point of n numbers, edges and others mixed.
func point(random *rand.Rand, n int) api.Row {
	p := make(api.Row, n)
	for i := range p {
		p[i] = edges[random.Intn(len(edges))]
		if random.Intn(2) == 0 {
			p[i] = int64(random.Uint64()) >> random.Intn(64)
		}
	}
	return p
}

// some tells a box of n dimensions that is right: wide ones, those whose corners are alike in many numbers or in their higher bits, and those of few points.
func some(random *rand.Rand, n int) api.Box {
	b := span(point(random, n), point(random, n))
	kind := random.Intn(4)
	for i := range n {
		switch {
		case kind == 1 && random.Intn(2) == 0:
			b.Hi[i] = b.Lo[i]
		case kind == 2:
			b.Hi[i] = b.Lo[i] ^ int64(random.Uint64()>>random.Intn(64))
		case kind == 3:
			b.Hi[i] = b.Lo[i] ^ int64(random.Intn(4))
		}
		b.Lo[i], b.Hi[i] = min(b.Lo[i], b.Hi[i]), max(b.Lo[i], b.Hi[i])
	}
	return b
}

// within tells a point of a box that is right, often one at its sides.
func within(random *rand.Rand, b api.Box) api.Row {
	p := point(random, len(b.Lo))
	for i := range p {
		p[i] = max(b.Lo[i], min(b.Hi[i], p[i]))
	}
	return p
}

func all(n int, x int64) api.Row {
	return slices.Repeat(api.Row{x}, n)
}

func span(lo, hi api.Row) api.Box {
	return api.Box{Lo: lo, Hi: hi}
}

// sided tells boxes of d dimensions whose sides begin and end at the ends of all numbers and where the signs meet, all sides alike, and one side unlike the others.
func sided(d int) []api.Box {
	ends := []int64{least, least + 1, -2, -1, 0, 1, greatest - 1, greatest}
	var l []api.Box
	for i, lo := range ends {
		for _, hi := range ends[i:] {
			l = append(l, span(all(d, lo), all(d, hi)))
			for side := range d {
				one, other := span(all(d, -1), all(d, 0)), span(all(d, lo), all(d, hi))
				one.Lo[side], one.Hi[side] = lo, hi
				other.Lo[side], other.Hi[side] = 0, 1
				l = append(l, one, other)
			}
		}
	}
	return l
}

// smallest tells boxes of few points in a window that begins at a point, of so many numbers a side: all of them.
func smallest(at api.Row, width int64) []api.Box {
	last := shift(at, width-1)
	var l []api.Box
	for _, lo := range pointsOf(span(at, last)) {
		for _, hi := range pointsOf(span(lo, last)) {
			l = append(l, span(lo, hi))
		}
	}
	return l
}

// shift tells a point of which each number is so much more.
func shift(p api.Row, by int64) api.Row {
	q := slices.Clone(p)
	for i := range q {
		q[i] += by
	}
	return q
}

// windows are places for small boxes: at the ends of all numbers, where signs meet, and where many bits turn at once.
func windows(d int, width int64) []api.Row {
	mixed := all(d, 6)
	for i := range mixed {
		mixed[i] = []int64{-2, 1<<32 - 1, least, 5, greatest - width + 1, 0, -1 << 40, 3}[i]
	}
	return []api.Row{all(d, 0), all(d, -1), all(d, least), all(d, greatest-width+1), all(d, 7), mixed}
}

// pointsOf tells all points of a box that has few of them.
func pointsOf(b api.Box) []api.Row {
	l := []api.Row{{}}
	for i, lo := range b.Lo {
		var longer []api.Row
		for _, p := range l {
			for step := range uint64(b.Hi[i]) - uint64(lo) + 1 {
				longer = append(longer, append(slices.Clone(p), lo+int64(step)))
			}
		}
		l = longer
	}
	return l
}

// inOrder tells all points of a box that has few of them, by their codes.
func inOrder(t *testing.T, b api.Box) []api.Row {
	t.Helper()
	l := pointsOf(b)
	slices.SortFunc(l, func(p, q api.Row) int { return bytes.Compare(code(t, p), code(t, q)) })
	return l
}

// few tells whether a box has not too many points to be gone through.
func few(b api.Box) bool {
	return countOf(b).Cmp(big.NewInt(300)) < 0
}

// countOf tells how many points a box has, by numbers without bound.
func countOf(b api.Box) *big.Int {
	n := big.NewInt(1)
	for i := range b.Lo {
		side := new(big.Int).Sub(big.NewInt(b.Hi[i]), big.NewInt(b.Lo[i]))
		n.Mul(n, side.Add(side, big.NewInt(1)))
	}
	return n
}

// codesOf tells how many codes there are from that of a box's lower corner to that of its upper one.
func codesOf(t *testing.T, b api.Box) *big.Int {
	t.Helper()
	n := new(big.Int).SetBytes(code(t, b.Hi))
	n.Sub(n, new(big.Int).SetBytes(code(t, b.Lo)))
	return n.Add(n, big.NewInt(1))
}

// broken are boxes that aren't right for as many dimensions as their Lo has numbers.
func broken() map[string]api.Box {
	return map[string]api.Box{
		"zero":               {},
		"empty corners":      span(api.Row{}, api.Row{}),
		"no Hi":              {Lo: api.Row{1}},
		"no Lo":              {Hi: api.Row{1}},
		"turned":             span(api.Row{2}, api.Row{1}),
		"turned edges":       span(api.Row{greatest}, api.Row{least}),
		"turned signs":       span(api.Row{0, 0}, api.Row{0, -1}),
		"turned first":       span(api.Row{2, 1}, api.Row{1, 9}),
		"turned last":        span(api.Row{1, 1, 2}, api.Row{9, 9, 1}),
		"turned of 8":        span(api.Row{0, 0, 0, 0, 0, 0, 0, 1}, all(8, 0)),
		"Lo longer":          span(api.Row{1, 1}, api.Row{2}),
		"Hi longer":          span(api.Row{1}, api.Row{2, 2}),
		"of 9":               span(all(9, 1), all(9, 2)),
		"of 9 alike":         span(all(9, 1), all(9, 1)),
		"of 8 and 9":         span(all(8, 1), all(9, 2)),
		"of 9 and 8":         span(all(9, 1), all(8, 2)),
		"of 17":              span(all(17, 1), all(17, 2)),
		"of 9 that's turned": span(all(9, 2), all(9, 1)),
	}
}

// code tells the code of a point that has one.
func code(t *testing.T, p api.Row) []byte {
	t.Helper()
	c, err := morton.Code(p)
	if err != api.OK {
		t.Fatalf("%d: error %d", p, err)
	}
	return c
}

// split tells both parts of a box that has them.
func split(t *testing.T, b api.Box) (lower, upper api.Box) {
	t.Helper()
	lower, upper, ok := zrange.Split(b)
	if !ok {
		t.Fatalf("%d: no parts", b)
	}
	return lower, upper
}

// isZero tells whether a box is the zero one.
func isZero(b api.Box) bool {
	return len(b.Lo) == 0 && len(b.Hi) == 0
}

// sameBoxes tells whether two lists have the same boxes.
func sameBoxes(l, m []api.Box) bool {
	return slices.EqualFunc(l, m, box.Same)
}

// roomy tells a box whose corners have spare room, and what lies below both.
func roomy(b api.Box) (api.Box, []api.Row) {
	lo, hi := slices.Clip(append(slices.Clone(b.Lo), 71, 72, 73)), slices.Clip(append(slices.Clone(b.Hi), 81, 82, 83))
	return span(lo[:len(b.Lo)], hi[:len(b.Hi)]), []api.Row{lo, hi}
}

// stayed tells whether what roomy told is as it was.
func stayed(b api.Box, below []api.Row) bool {
	return slices.Equal(below[0], append(slices.Clone(b.Lo), 71, 72, 73)) && slices.Equal(below[1], append(slices.Clone(b.Hi), 81, 82, 83))
}

// overwrite writes over numbers, their spare room too.
func overwrite[T byte | int64](l []T) {
	for i := range l[:cap(l)] {
		l[:cap(l)][i] = 99
	}
}
