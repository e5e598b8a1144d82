package zrange_test

import (
	"math/rand"
	"slices"
	"testing"

	"indenture/api"
	"indenture/box"
	"indenture/zrange"
)

// rangesOf says by the words which ranges a box has: by parts and blocks as the tests tell these.
func rangesOf(t *testing.T, b api.Box, depth int) []api.Box {
	t.Helper()
	lower, upper, ok := partsOf(t, b)
	if depth == 0 || full(t, b) || !ok {
		return []api.Box{b}
	}
	return append(rangesOf(t, lower, depth-1), rangesOf(t, upper, depth-1)...)
}

// ranges tells the ranges of a box that has them.
func ranges(t *testing.T, b api.Box, depth int) []api.Box {
	t.Helper()
	l, err := zrange.Ranges(b, depth)
	if err != api.OK {
		t.Fatalf("%d by %d: error %d", b, depth, err)
	}
	return l
}

// gathered holds Ranges against the words.
func gathered(t *testing.T, b api.Box, depth int) {
	t.Helper()
	if got, want := ranges(t, b, depth), rangesOf(t, b, depth); !sameBoxes(got, want) {
		t.Errorf("%d by %d: %d, not %d", b, depth, got, want)
	}
}

// P6.3: by hand.
func TestRangesKnown(t *testing.T) {
	three := span(api.Row{0, 0}, api.Row{2, 0})
	signs := span(api.Row{-1, -1}, api.Row{0, 0})
	corner := span(all(3, 0), api.Row{2, 1, 1})
	for _, k := range []struct {
		b     api.Box
		depth int
		want  []api.Box
	}{
		{span(api.Row{0, 0}, api.Row{1, 1}), 0, []api.Box{span(api.Row{0, 0}, api.Row{1, 1})}},
		{span(api.Row{0, 0}, api.Row{1, 1}), 10, []api.Box{span(api.Row{0, 0}, api.Row{1, 1})}},
		{span(api.Row{-5}, api.Row{77}), 10, []api.Box{span(api.Row{-5}, api.Row{77})}},
		{box.Whole(8), 10, []api.Box{box.Whole(8)}},
		{box.Of(all(8, -1)), 10, []api.Box{box.Of(all(8, -1))}},
		{three, 0, []api.Box{three}},
		{three, 1, []api.Box{span(api.Row{0, 0}, api.Row{1, 0}), box.Of(api.Row{2, 0})}},
		{three, 2, []api.Box{box.Of(api.Row{0, 0}), box.Of(api.Row{1, 0}), box.Of(api.Row{2, 0})}},
		{three, 3, []api.Box{box.Of(api.Row{0, 0}), box.Of(api.Row{1, 0}), box.Of(api.Row{2, 0})}},
		{three, 10, []api.Box{box.Of(api.Row{0, 0}), box.Of(api.Row{1, 0}), box.Of(api.Row{2, 0})}},
		{signs, 0, []api.Box{signs}},
		{signs, 1, []api.Box{span(api.Row{-1, -1}, api.Row{-1, 0}), span(api.Row{0, -1}, api.Row{0, 0})}},
		{signs, 2, []api.Box{box.Of(api.Row{-1, -1}), box.Of(api.Row{-1, 0}), box.Of(api.Row{0, -1}), box.Of(api.Row{0, 0})}},
		// One part is a block, and isn't split any more.
		{corner, 1, []api.Box{span(all(3, 0), all(3, 1)), span(api.Row{2, 0, 0}, api.Row{2, 1, 1})}},
		{corner, 10, []api.Box{span(all(3, 0), all(3, 1)), span(api.Row{2, 0, 0}, api.Row{2, 1, 1})}},
		{span(api.Row{0, 0}, api.Row{3, 2}), 2, []api.Box{span(api.Row{0, 0}, api.Row{1, 1}), span(api.Row{0, 2}, api.Row{1, 2}), span(api.Row{2, 0}, api.Row{3, 1}), span(api.Row{2, 2}, api.Row{3, 2})}},
	} {
		if got := ranges(t, k.b, k.depth); !sameBoxes(got, k.want) {
			t.Errorf("%d by %d: %d, not %d", k.b, k.depth, got, k.want)
		}
	}
}

// P6.3: boxes of each count of dimensions, by each depth that may be.
func TestRangesAll(t *testing.T) {
	random := rand.New(rand.NewSource(12))
	for d := 1; d <= 8; d++ {
		for depth := range 11 {
			for range 8 {
				gathered(t, some(random, d), depth)
			}
			gathered(t, box.Of(point(random, d)), depth)
			gathered(t, box.Whole(d), depth)
			gathered(t, aligned(point(random, d), random.Intn(64*d)), depth)
		}
		for i, b := range sided(d) {
			gathered(t, b, i%5)
		}
	}
}

// P6.3: all small boxes of windows, so deep that only blocks are left, and less deep.
func TestRangesSmall(t *testing.T) {
	for d := 1; d <= 8; d++ {
		width := []int64{9, 4, 3, 2, 2, 1, 1, 1}[d-1]
		for _, at := range windows(d, width) {
			for i, b := range smallest(at, width) {
				gathered(t, b, 10)
				gathered(t, b, i%4)
			}
		}
	}
}

// P6.3: each depth tells more ranges of a box with many, 2^depth at most: 1024 of them by 10.
func TestRangesMost(t *testing.T) {
	for d := 2; d <= 8; d++ {
		b := span(all(d, least+1), all(d, greatest-1))
		for depth := range 11 {
			if got := len(ranges(t, b, depth)); got > 1<<depth || depth > 0 && got <= len(ranges(t, b, depth-1)) {
				t.Errorf("%d dimensions by %d: %d ranges", d, depth, got)
			}
		}
	}
	if got := len(ranges(t, span(all(8, 1), all(8, 14)), 10)); got != 1024 {
		t.Errorf("%d ranges", got)
	}
}

// P6.3: ErrArg and none, if the depth isn't from 0 to 10.
func TestRangesDepth(t *testing.T) {
	for _, b := range []api.Box{box.Whole(1), box.Whole(8), box.Of(all(3, 0)), span(api.Row{0, 0}, api.Row{2, 0}), span(all(8, -9), all(8, 9))} {
		for _, depth := range []int{least, least + 1, -1 << 32, -11, -10, -2, -1, 0, 1, 9, 10, 11, 12, 20, 256, 1 << 32, 1<<32 + 1, greatest - 1, greatest} {
			got, err := zrange.Ranges(b, depth)
			if depth >= 0 && depth <= 10 {
				if len(got) == 0 || err != api.OK {
					t.Errorf("%d by %d: %d ranges, %d", b, depth, len(got), err)
				}
			} else if len(got) != 0 || err != api.ErrArg {
				t.Errorf("%d by %d: %d ranges, %d", b, depth, len(got), err)
			}
		}
	}
}

// P6.3: ErrArg and none, if the box isn't right, by whatever depth.
func TestRangesBroken(t *testing.T) {
	for name, b := range broken() {
		for _, depth := range []int{least, -1, 0, 1, 2, 10, 11, greatest} {
			if got, err := zrange.Ranges(b, depth); len(got) != 0 || err != api.ErrArg {
				t.Errorf("%s by %d: %d, %d", name, depth, got, err)
			}
		}
	}
}

// P6.3: what is handed in stays as it is, its spare room too; what was told may be written over, each corner of each range for itself.
func TestRangesMemory(t *testing.T) {
	random := rand.New(rand.NewSource(13))
	for d := 1; d <= 8; d++ {
		for depth := range 5 {
			for _, b := range []api.Box{some(random, d), box.Of(point(random, d)), span(all(d, -2), all(d, 1)), box.Whole(d)} {
				room, below := roomy(b)
				want := rangesOf(t, b, depth)
				for i := range want {
					for _, upper := range []bool{false, true} {
						got := ranges(t, room, depth)
						corner := got[i].Lo
						if upper {
							corner = got[i].Hi
						}
						overwrite(corner)
						alone(t, got, want, i, upper)
						gathered(t, room, depth)
					}
				}
				if !stayed(b, below) {
					t.Errorf("%d by %d: the box was changed", b, depth)
				}
			}
		}
	}
}

// alone tells of ranges whose corners aren't as they must be, but for one that was written over.
func alone(t *testing.T, got, want []api.Box, over int, upper bool) {
	t.Helper()
	for i, b := range got {
		if !slices.Equal(b.Lo, want[i].Lo) && (i != over || upper) || !slices.Equal(b.Hi, want[i].Hi) && (i != over || !upper) {
			t.Errorf("ranges %d and %d share memory", over, i)
		}
	}
}
