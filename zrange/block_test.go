package zrange_test

import (
	"math/rand"
	"slices"
	"testing"

	"indenture/api"
	"indenture/box"
	"indenture/morton"
	"indenture/zrange"
)

// walk says by the words whether a box of few points is a block: it goes through the codes from that of its lower corner to that of its upper one.
func walk(t *testing.T, b api.Box) bool {
	t.Helper()
	c, last := code(t, b.Lo), code(t, b.Hi)
	for {
		p, _ := morton.Point(c, len(b.Lo))
		if !box.Has(b, p) {
			return false
		}
		if slices.Equal(c, last) {
			return true
		}
		c, _ = morton.Next(c)
	}
}

// full tells whether a box has as many points as there are codes between its corners. (Each of its points has a code there, so it is a block just where it has.)
func full(t *testing.T, b api.Box) bool {
	t.Helper()
	return countOf(b).Cmp(codesOf(t, b)) == 0
}

// blocks holds Block against a truth, and that one against the words.
func blocks(t *testing.T, b api.Box, want bool) {
	t.Helper()
	if got := zrange.Block(b); got != want {
		t.Errorf("%d: %t", b, got)
	}
	if full(t, b) != want {
		t.Errorf("%d: %d points, %d codes", b, countOf(b), codesOf(t, b))
	}
	if few(b) && walk(t, b) != want {
		t.Errorf("%d: walked, not %t", b, want)
	}
}

// P6.2: by hand.
func TestBlockKnown(t *testing.T) {
	for _, k := range []struct {
		lo, hi api.Row
		want   bool
	}{
		{api.Row{0, 0}, api.Row{1, 1}, true}, // the chapter's example
		{api.Row{0, 0}, api.Row{2, 0}, false},
		// Of one number each box is a block.
		{api.Row{5}, api.Row{9}, true}, {api.Row{-3}, api.Row{4}, true}, {api.Row{least}, api.Row{greatest}, true}, {api.Row{least + 1}, api.Row{greatest - 1}, true}, {api.Row{0}, api.Row{0}, true}, {api.Row{-1}, api.Row{0}, true},
		// The codes of (0, 0), (0, 1), (1, 0) and (1, 1) end with 0, 1, 2, 3.
		{api.Row{0, 0}, api.Row{0, 1}, true}, {api.Row{0, 0}, api.Row{1, 0}, false}, {api.Row{1, 0}, api.Row{1, 1}, true}, {api.Row{0, 1}, api.Row{1, 1}, false},
		{api.Row{0, 1}, api.Row{0, 2}, false}, {api.Row{0, 2}, api.Row{0, 3}, true}, {api.Row{0, 0}, api.Row{0, 3}, false}, {api.Row{1, 0}, api.Row{2, 1}, false}, {api.Row{2, 0}, api.Row{3, 1}, true}, {api.Row{1, 1}, api.Row{2, 2}, false},
		{api.Row{0, 0}, api.Row{1, 3}, true}, {api.Row{0, 0}, api.Row{3, 1}, false}, {api.Row{0, 0}, api.Row{3, 3}, true}, {api.Row{2, 0}, api.Row{3, 3}, true}, {api.Row{1, 0}, api.Row{2, 3}, false}, {api.Row{0, 1}, api.Row{1, 2}, false},
		{api.Row{0, 0}, api.Row{2, 3}, false}, {api.Row{1, 0}, api.Row{3, 3}, false}, {api.Row{0, 0}, api.Row{3, 2}, false}, {api.Row{0, 1}, api.Row{3, 3}, false}, {api.Row{0, 0}, api.Row{1, 2}, false}, {api.Row{0, 1}, api.Row{1, 3}, false},
		// Three: a part of a level is a block from its last number on.
		{api.Row{0, 0, 0}, api.Row{0, 0, 1}, true}, {api.Row{0, 0, 0}, api.Row{0, 1, 1}, true}, {api.Row{0, 0, 0}, api.Row{1, 1, 1}, true}, {api.Row{0, 0, 0}, api.Row{0, 1, 0}, false}, {api.Row{0, 0, 0}, api.Row{1, 0, 1}, false}, {api.Row{0, 0, 0}, api.Row{1, 1, 0}, false},
		// Edges.
		{api.Row{least, least}, api.Row{greatest, greatest}, true}, {api.Row{least, least}, api.Row{-1, greatest}, true}, {api.Row{0, least}, api.Row{greatest, greatest}, true}, {api.Row{least, 0}, api.Row{greatest, greatest}, false}, {api.Row{0, 0}, api.Row{greatest, greatest}, true}, {api.Row{least, least}, api.Row{-1, -1}, true},
		{api.Row{-1, -1}, api.Row{0, 0}, false}, {api.Row{-2, -2}, api.Row{-1, -1}, true}, {api.Row{least, least}, api.Row{greatest, greatest - 1}, false}, {api.Row{least, least + 1}, api.Row{greatest, greatest}, false}, {api.Row{least + 1, least}, api.Row{greatest, greatest}, false}, {api.Row{least, least}, api.Row{greatest - 1, greatest}, false},
		{all(8, least), all(8, greatest), true}, {all(8, 0), all(8, greatest), true}, {all(8, 0), all(8, 1), true}, {all(8, -1), all(8, 0), false}, {all(8, 1), all(8, 2), false},
	} {
		blocks(t, span(k.lo, k.hi), k.want)
	}
}

// P6.2: all small boxes of windows.
func TestBlockSmall(t *testing.T) {
	seen := map[bool]int{}
	for d := 1; d <= 8; d++ {
		width := []int64{12, 8, 4, 3, 2, 2, 1, 1}[d-1]
		for _, at := range windows(d, width) {
			for _, b := range smallest(at, width) {
				want := walk(t, b)
				blocks(t, b, want)
				seen[want]++
			}
		}
	}
	if seen[true] < 100 || seen[false] < 100 {
		t.Error("too few of one kind", seen)
	}
}

// P6.2: boxes of one point, and of all points.
func TestBlockEnds(t *testing.T) {
	random := rand.New(rand.NewSource(9))
	for d := 1; d <= 8; d++ {
		blocks(t, box.Whole(d), true)
		for _, x := range edges {
			blocks(t, box.Of(all(d, x)), true)
		}
		for range 30 {
			blocks(t, box.Of(point(random, d)), true)
		}
	}
}

// aligned tells the block of all points whose codes begin with so many bits of that of p.
func aligned(p api.Row, ahead int) api.Box {
	d := len(p)
	b := box.Of(p)
	for i := range d {
		rest := ^uint64(0) >> ((ahead + d - 1 - i) / d) // of its bits behind those ahead
		b.Lo[i], b.Hi[i] = back(turnSign(p[i])&^rest), back(turnSign(p[i])|rest)
	}
	return b
}

// P6.2: all codes that begin with the same bits, as many as may be, are a block; with one side longer or shorter by one at either end, or moved by one, they are one only where the counts say so.
func TestBlockAligned(t *testing.T) {
	random := rand.New(rand.NewSource(10))
	for d := 1; d <= 8; d++ {
		for ahead := range 64*d + 1 {
			b := aligned(point(random, d), ahead)
			blocks(t, b, true)
			for _, other := range disturbed(b) {
				blocks(t, other, full(t, other))
			}
		}
	}
}

// disturbed tells the right boxes of which one number of one corner is another one, or a side is moved.
func disturbed(b api.Box) []api.Box {
	var l []api.Box
	for i := range b.Lo {
		for _, by := range [][2]int64{{1, 0}, {-1, 0}, {0, 1}, {0, -1}, {1, 1}, {-1, -1}} {
			o := span(slices.Clone(b.Lo), slices.Clone(b.Hi))
			o.Lo[i] += by[0]
			o.Hi[i] += by[1]
			round := by[0] < 0 && o.Lo[i] > b.Lo[i] || by[0] > 0 && o.Lo[i] < b.Lo[i] || by[1] < 0 && o.Hi[i] > b.Hi[i] || by[1] > 0 && o.Hi[i] < b.Hi[i]
			if !round && o.Lo[i] <= o.Hi[i] {
				l = append(l, o)
			}
		}
	}
	return l
}

// P6.2: boxes of each count of dimensions.
func TestBlockAll(t *testing.T) {
	random := rand.New(rand.NewSource(11))
	for d := 1; d <= 8; d++ {
		for range 200 {
			b := some(random, d)
			blocks(t, b, full(t, b))
		}
		for _, b := range sided(d) {
			blocks(t, b, full(t, b))
		}
	}
}

// P6.2: false, if the box isn't right.
func TestBlockBroken(t *testing.T) {
	for name, b := range broken() {
		if zrange.Block(b) {
			t.Error(name)
		}
	}
}
