package zrange_test

import (
	"math/big"
	"math/rand"
	"slices"
	"strings"
	"testing"

	"indenture/api"
	"indenture/box"
	"indenture/morton"
	"indenture/zrange"
)

// digits tells the 64 bits of a number and 2^63 together, the highest first, by numbers without bound.
func digits(x int64) string {
	n := new(big.Int).Add(big.NewInt(x), new(big.Int).Lsh(big.NewInt(1), 63))
	n.SetBit(n, 64, 1) // so that no zeros ahead are lost
	return n.Text(2)[1:]
}

// number tells the number of 64 bits, the other way round.
func number(s string) int64 {
	n, _ := new(big.Int).SetString(s, 2)
	return n.Sub(n, new(big.Int).Lsh(big.NewInt(1), 63)).Int64()
}

// place says by the words which bit of the codes of a box's corners is the first unlike one, 64 for each number if none is.
func place(t *testing.T, b api.Box) int {
	t.Helper()
	lo, hi := code(t, b.Lo), code(t, b.Hi)
	for i := range 64 * len(b.Lo) {
		if morton.Bit(lo, i) != morton.Bit(hi, i) {
			return i
		}
	}
	return 64 * len(b.Lo)
}

// partsOf says by the words which points both parts of a box have, and whether it has them.
func partsOf(t *testing.T, b api.Box) (lower, upper api.Box, ok bool) {
	t.Helper()
	d := len(b.Lo)
	at := place(t, b)
	if at == 64*d {
		return api.Box{}, api.Box{}, false
	}
	side, bit := at%d, at/d
	ahead := digits(b.Lo[side])[:bit]
	lower, upper = span(slices.Clone(b.Lo), slices.Clone(b.Hi)), span(slices.Clone(b.Lo), slices.Clone(b.Hi))
	lower.Hi[side] = number(ahead + "0" + strings.Repeat("1", 63-bit))
	upper.Lo[side] = number(ahead + "1" + strings.Repeat("0", 63-bit))
	return lower, upper, true
}

// parts holds Split against two boxes, zero ones for none.
func parts(t *testing.T, b, lower, upper api.Box, want bool) {
	t.Helper()
	gotLower, gotUpper, ok := zrange.Split(b)
	if !box.Same(gotLower, lower) || !box.Same(gotUpper, upper) || ok != want {
		t.Errorf("%d: %d and %d, %t, not %d and %d", b, gotLower, gotUpper, ok, lower, upper)
	}
}

// P6.2: by hand.
func TestSplitKnown(t *testing.T) {
	for _, k := range []struct{ lo, lowerHi, upperLo, hi api.Row }{
		{api.Row{0, 0}, api.Row{0, 1}, api.Row{1, 0}, api.Row{1, 1}}, // the chapter's examples
		{api.Row{0, 0}, api.Row{1, 0}, api.Row{2, 0}, api.Row{2, 0}},
		// The highest bit that is unlike decides, of several such ones that of the first number.
		{api.Row{0, 0}, api.Row{1, 1}, api.Row{0, 2}, api.Row{1, 2}},
		{api.Row{0, 0}, api.Row{1, 3}, api.Row{2, 0}, api.Row{3, 3}},
		{api.Row{0, 0}, api.Row{3, 3}, api.Row{0, 4}, api.Row{3, 4}},
		{api.Row{5, 4, 6}, api.Row{5, 4, 6}, api.Row{5, 4, 7}, api.Row{5, 4, 7}},
		{api.Row{5, 4, 6}, api.Row{5, 4, 7}, api.Row{5, 5, 6}, api.Row{5, 5, 7}},
		{api.Row{4, 0, 0}, api.Row{5, 1, 1}, api.Row{6, 0, 0}, api.Row{7, 1, 1}},
		{api.Row{3, 3, 3}, api.Row{3, 4, 4}, api.Row{4, 3, 3}, api.Row{4, 4, 4}},
		{api.Row{3, 3, 3}, api.Row{3, 3, 4}, api.Row{3, 4, 3}, api.Row{3, 4, 4}},
		// One number: in the middle of what its bits may be, not of the side.
		{api.Row{5}, api.Row{7}, api.Row{8}, api.Row{9}},
		{api.Row{7}, api.Row{7}, api.Row{8}, api.Row{15}},
		{api.Row{8}, api.Row{11}, api.Row{12}, api.Row{15}},
		{api.Row{6}, api.Row{6}, api.Row{7}, api.Row{7}},
		// Signs: the highest bit of all.
		{api.Row{-1}, api.Row{-1}, api.Row{0}, api.Row{0}},
		{api.Row{-9}, api.Row{-1}, api.Row{0}, api.Row{greatest}},
		{api.Row{least}, api.Row{-1}, api.Row{0}, api.Row{greatest}},
		{api.Row{least}, api.Row{-1}, api.Row{0}, api.Row{0}},
		{api.Row{least}, api.Row{-1<<62 - 1}, api.Row{-1 << 62}, api.Row{-1}},
		{api.Row{0}, api.Row{1<<62 - 1}, api.Row{1 << 62}, api.Row{greatest}},
		{api.Row{-2}, api.Row{-2}, api.Row{-1}, api.Row{-1}},
		{api.Row{least}, api.Row{least}, api.Row{least + 1}, api.Row{least + 1}},
		{api.Row{greatest - 1}, api.Row{greatest - 1}, api.Row{greatest}, api.Row{greatest}},
		{api.Row{-8}, api.Row{-5}, api.Row{-4}, api.Row{-3}},
		{api.Row{0, -1}, api.Row{greatest, -1}, api.Row{0, 0}, api.Row{greatest, 0}},
		{api.Row{least, least}, api.Row{-1, greatest}, api.Row{0, least}, api.Row{greatest, greatest}},
		{all(8, least), append(api.Row{-1}, all(7, greatest)...), append(api.Row{0}, all(7, least)...), all(8, greatest)},
		{all(8, 6), append(api.Row{6}, all(7, 7)...), append(api.Row{7}, all(7, 6)...), all(8, 7)},
		{append(all(7, 6), 3), append(all(7, 7), 3), append(all(7, 6), 4), append(all(7, 7), 4)},
	} {
		parts(t, span(k.lo, k.hi), span(k.lo, k.lowerHi), span(k.upperLo, k.hi), true)
	}
}

// P6.2: boxes of each count of dimensions, and what their parts' parts are.
func TestSplitAll(t *testing.T) {
	random := rand.New(rand.NewSource(5))
	for d := 1; d <= 8; d++ {
		var boxes []api.Box
		for range 60 {
			boxes = append(boxes, some(random, d))
		}
		for _, b := range append(boxes, sided(d)...) {
			for range 6 {
				lower, upper, ok := partsOf(t, b)
				parts(t, b, lower, upper, ok)
				if !ok {
					break
				}
				b = []api.Box{lower, upper}[random.Intn(2)]
			}
		}
	}
}

// P6.2: all bits by which the corners may be unlike first, of each number, whatever the bits behind it.
func TestSplitEachBit(t *testing.T) {
	random := rand.New(rand.NewSource(6))
	for d := 1; d <= 8; d++ {
		for i := range d {
			for bit := range 64 {
				b := box.Of(point(random, d))
				for k := range d {
					count := 63 - bit // of the bits behind the highest that may be unlike
					if k > i {
						count++
					}
					n := turnSign(b.Lo[k]) &^ (1<<count - 1)
					if k == i {
						n &^= 1 << count
					}
					rest := uint64(1)<<count - 1
					one, other := random.Uint64()&rest, random.Uint64()&rest
					b.Lo[k], b.Hi[k] = back(n|min(one, other)), back(n|max(one, other))
					if k == i {
						b.Lo[k], b.Hi[k] = back(n|one), back(n|other|1<<count)
					}
				}
				if at := place(t, b); at != bit*d+i {
					t.Fatalf("%d: the first unlike bit is %d, not %d", b, at, bit*d+i)
				}
				lower, upper, ok := partsOf(t, b)
				parts(t, b, lower, upper, ok)
			}
		}
	}
}

// P6.2: each point of a small box is in just one part: by its bit.
func TestSplitPoints(t *testing.T) {
	for d := 1; d <= 8; d++ {
		width := []int64{10, 4, 3, 2, 2, 2, 1, 1}[d-1]
		for _, at := range windows(d, width) {
			for _, b := range smallest(at, width) {
				bit := place(t, b)
				lower, upper, ok := zrange.Split(b)
				if ok == (bit == 64*d) {
					t.Fatalf("%d: %t", b, ok)
				}
				for _, p := range pointsOf(b) {
					inLower, inUpper := ok && morton.Bit(code(t, p), bit) == 0, ok && morton.Bit(code(t, p), bit) == 1
					if box.Has(lower, p) != inLower || box.Has(upper, p) != inUpper {
						t.Errorf("%d of %d: %d and %d", p, b, lower, upper)
					}
				}
			}
		}
	}
}

// P6.2: zero ones and false, if the corners are alike.
func TestSplitAlike(t *testing.T) {
	random := rand.New(rand.NewSource(7))
	for d := 1; d <= 8; d++ {
		for _, x := range edges {
			parts(t, box.Of(all(d, x)), api.Box{}, api.Box{}, false)
		}
		for range 30 {
			p := point(random, d)
			parts(t, span(p, p), api.Box{}, api.Box{}, false)
			parts(t, span(p, slices.Clone(p)), api.Box{}, api.Box{}, false)
		}
	}
}

// P6.2: zero ones and false, if the box isn't right.
func TestSplitBroken(t *testing.T) {
	for name, b := range broken() {
		lower, upper, ok := zrange.Split(b)
		if !isZero(lower) || !isZero(upper) || ok {
			t.Errorf("%s: %d and %d, %t", name, lower, upper, ok)
		}
	}
}

// P6.2: what is handed in stays as it is, its spare room too; what was told may be written over, each corner of each part for itself.
func TestSplitMemory(t *testing.T) {
	random := rand.New(rand.NewSource(8))
	for d := 1; d <= 8; d++ {
		for range 30 {
			b := some(random, d)
			room, below := roomy(b)
			lower, upper, ok := partsOf(t, b)
			for corner := range 4 {
				gotLower, gotUpper, _ := zrange.Split(room)
				zrange.Block(room)
				got := []api.Row{gotLower.Lo, gotLower.Hi, gotUpper.Lo, gotUpper.Hi}
				overwrite(got[corner])
				for i, want := range []api.Row{lower.Lo, lower.Hi, upper.Lo, upper.Hi} {
					if i != corner && !slices.Equal(got[i], want) {
						t.Errorf("%d: corners %d and %d share memory", b, corner, i)
					}
				}
				parts(t, room, lower, upper, ok)
			}
			if !stayed(b, below) {
				t.Errorf("%d: the box was changed", b)
			}
		}
	}
}
