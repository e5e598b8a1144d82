package zrange_test

import (
	"bytes"
	"math/rand"
	"slices"
	"testing"

	"indenture/api"
	"indenture/box"
	"indenture/morton"
	"indenture/zrange"
)

// firstFrom says by the words of a code which point of a box has the first code from that of p on: p itself; or it has the same bits up to one that is 0 in p's code and 1 in its own, as late as may be, and of those points of the box it is the least one.
func firstFrom(b api.Box, p api.Row) (api.Row, bool) {
	if box.Has(b, p) {
		return p, true
	}
	d := len(p)
	for place := 64*d - 1; place >= 0; place-- {
		side, mask := place%d, uint64(1)<<(63-place/d)
		if turnSign(p[side])&mask != 0 {
			continue
		}
		begin := span(make(api.Row, d), make(api.Row, d))
		for i, x := range p {
			rest := mask - 1 // of the bits behind the place
			if i > side {
				rest |= mask
			}
			n := turnSign(x) &^ rest
			if i == side {
				n |= mask
			}
			begin.Lo[i], begin.Hi[i] = back(n), back(n|rest)
		}
		if cut, ok := box.Cut(begin, b); ok {
			return cut.Lo, true
		}
	}
	return nil, false
}

// lastUpTo says the same of the last code up to that of p: it is the first one where all bits are turned.
func lastUpTo(b api.Box, p api.Row) (api.Row, bool) {
	q, ok := firstFrom(span(mirror(b.Hi), mirror(b.Lo)), mirror(p))
	return mirror(q), ok
}

func mirror(p api.Row) api.Row {
	q := slices.Clone(p)
	for i := range q {
		q[i] = ^q[i]
	}
	return q
}

func turnSign(x int64) uint64 {
	return uint64(x) ^ 1<<63
}

func back(n uint64) int64 {
	return int64(n ^ 1<<63)
}

// sought holds Skip and Back of a point's code against the points that they must find, nil for none.
func sought(t *testing.T, b api.Box, p, first, last api.Row) {
	t.Helper()
	c := code(t, p)
	got, ok := zrange.Skip(c, b)
	if ok != (first != nil) || !ok && len(got) != 0 || ok && !slices.Equal(got, code(t, first)) {
		t.Errorf("%d from %d on: %d, %t, not %d", b, p, got, ok, first)
	}
	got, ok = zrange.Back(c, b)
	if ok != (last != nil) || !ok && len(got) != 0 || ok && !slices.Equal(got, code(t, last)) {
		t.Errorf("%d up to %d: %d, %t, not %d", b, p, got, ok, last)
	}
}

// told holds Skip and Back against the words.
func told(t *testing.T, b api.Box, p api.Row) {
	t.Helper()
	first, _ := firstFrom(b, p)
	last, _ := lastUpTo(b, p)
	sought(t, b, p, first, last)
}

// P6.1: by hand.
func TestSkipKnown(t *testing.T) {
	three := span(api.Row{0, 0}, api.Row{2, 0}) // its codes end with 0000, 0010, 1000
	row := span(api.Row{0, 1}, api.Row{3, 1})   // 0001, 0011, 1001, 1011
	signs := span(api.Row{-1, -1}, api.Row{0, 0})
	for _, k := range []struct {
		b              api.Box
		p, first, last api.Row
	}{
		{three, api.Row{0, 1}, api.Row{1, 0}, api.Row{0, 0}}, // the chapter's example
		{three, api.Row{0, 0}, api.Row{0, 0}, api.Row{0, 0}},
		{three, api.Row{1, 0}, api.Row{1, 0}, api.Row{1, 0}},
		{three, api.Row{1, 1}, api.Row{2, 0}, api.Row{1, 0}},
		{three, api.Row{0, 2}, api.Row{2, 0}, api.Row{1, 0}},
		{three, api.Row{1, 3}, api.Row{2, 0}, api.Row{1, 0}},
		{three, api.Row{2, 0}, api.Row{2, 0}, api.Row{2, 0}},
		{three, api.Row{2, 1}, nil, api.Row{2, 0}},
		{three, api.Row{-1, -1}, api.Row{0, 0}, nil},
		{three, api.Row{-1, 0}, api.Row{0, 0}, nil},
		{three, api.Row{0, -1}, api.Row{0, 0}, nil},
		{three, api.Row{least, least}, api.Row{0, 0}, nil},
		{three, api.Row{greatest, greatest}, nil, api.Row{2, 0}},
		{row, api.Row{0, 0}, api.Row{0, 1}, nil},
		{row, api.Row{1, 0}, api.Row{1, 1}, api.Row{0, 1}},
		{row, api.Row{0, 2}, api.Row{2, 1}, api.Row{1, 1}},
		{row, api.Row{0, 3}, api.Row{2, 1}, api.Row{1, 1}},
		{row, api.Row{3, 0}, api.Row{3, 1}, api.Row{2, 1}},
		{row, api.Row{2, 2}, nil, api.Row{3, 1}},
		{signs, api.Row{-1, -1}, api.Row{-1, -1}, api.Row{-1, -1}},
		{signs, api.Row{-1, greatest}, api.Row{0, -1}, api.Row{-1, 0}},
		{signs, api.Row{least, 0}, api.Row{-1, 0}, api.Row{-1, -1}},
		{signs, api.Row{-2, -2}, api.Row{-1, -1}, nil},
		{signs, api.Row{0, 1}, nil, api.Row{0, 0}},
		{signs, api.Row{greatest, least}, api.Row{0, 0}, api.Row{0, -1}},
		{span(api.Row{-5}, api.Row{7}), api.Row{-6}, api.Row{-5}, nil},
		{span(api.Row{-5}, api.Row{7}), api.Row{-2}, api.Row{-2}, api.Row{-2}},
		{span(api.Row{-5}, api.Row{7}), api.Row{8}, nil, api.Row{7}},
		{span(all(8, 0), all(8, 1)), api.Row{0, 0, 0, 0, 0, 0, 0, 2}, nil, all(8, 1)},
		{span(all(8, 0), all(8, 2)), api.Row{0, 0, 0, 0, 0, 0, 0, 3}, api.Row{0, 0, 0, 0, 0, 0, 1, 2}, api.Row{0, 0, 0, 0, 0, 0, 0, 2}},
	} {
		sought(t, k.b, k.p, k.first, k.last)
	}
}

// P6.1: all small boxes of a window, from each code of it and about it: held against all codes of the box, in order.
func TestSkipSmall(t *testing.T) {
	for d := 1; d <= 8; d++ {
		width := []int64{10, 4, 3, 2, 2, 1, 1, 1}[d-1]
		for _, at := range windows(d, width) {
			from := pointsOf(span(at, shift(at, width-1)))
			for i := range d {
				far := slices.Clone(at)
				far[i] ^= 1 << 20
				from = append(from, far)
			}
			for _, p := range []api.Row{at, shift(at, width-1)} {
				from = append(from, beside(t, p)...)
			}
			for _, b := range smallest(at, width) {
				bySight(t, b, from)
			}
		}
	}
}

// bySight holds Skip and Back from each of some points on against all points of a box of few ones.
func bySight(t *testing.T, b api.Box, from []api.Row) {
	t.Helper()
	l := inOrder(t, b)
	codes := make([][]byte, len(l))
	for i, p := range l {
		codes[i] = code(t, p)
	}
	for _, p := range from {
		var first, last api.Row
		own := code(t, p)
		for i, c := range codes {
			place := bytes.Compare(c, own)
			if place >= 0 && first == nil {
				first = l[i]
			}
			if place <= 0 {
				last = l[i]
			}
		}
		sought(t, b, p, first, last)
	}
}

// P6.1: boxes of each count of dimensions; codes of all kinds.
func TestSkipAll(t *testing.T) {
	random := rand.New(rand.NewSource(1))
	for d := 1; d <= 8; d++ {
		for range 120 {
			b := some(random, d)
			from := []api.Row{b.Lo, b.Hi, within(random, b), point(random, d), point(random, d), all(d, least), all(d, greatest)}
			from = append(from, beside(t, b.Lo)...)
			from = append(from, beside(t, b.Hi)...)
			for inner := b; !box.Same(box.Of(inner.Lo), inner) && len(from) < 60; {
				lower, upper := split(t, inner)
				from = append(from, beside(t, lower.Hi)...)
				from = append(from, beside(t, upper.Lo)...)
				inner = []api.Box{lower, upper}[random.Intn(2)]
			}
			for _, p := range from {
				told(t, b, p)
			}
			if few(b) {
				bySight(t, b, from)
			}
		}
	}
}

// beside tells the points whose codes are next to that of a point.
func beside(t *testing.T, p api.Row) []api.Row {
	t.Helper()
	var l []api.Row
	if next, ok := morton.Next(code(t, p)); ok {
		q, _ := morton.Point(next, len(p))
		l = append(l, q)
	}
	if next, ok := morton.Next(code(t, mirror(p))); ok {
		q, _ := morton.Point(next, len(p))
		l = append(l, mirror(q))
	}
	return l
}

// P6.1: boxes whose sides begin or end at the least and the greatest number, at 0, at -1; of one point; of all points.
func TestSkipEdges(t *testing.T) {
	random := rand.New(rand.NewSource(2))
	for d := 1; d <= 8; d++ {
		boxes := sided(d)
		for range 20 {
			boxes = append(boxes, box.Of(point(random, d)))
		}
		for _, b := range boxes {
			for _, p := range []api.Row{b.Lo, b.Hi, all(d, least), all(d, greatest), all(d, -1), all(d, 0), point(random, d), within(random, b)} {
				told(t, b, p)
			}
		}
		for range 50 {
			p := point(random, d)
			sought(t, box.Whole(d), p, p, p)
			sought(t, box.Of(p), p, p, p)
			for _, q := range beside(t, p) {
				if morton.Ahead(q, p) {
					sought(t, box.Of(p), q, p, nil)
				} else {
					sought(t, box.Of(p), q, nil, p)
				}
			}
		}
	}
}

// P6.1: all bits 0 and all bits 1: the box's first code, its last one.
func TestSkipEnds(t *testing.T) {
	random := rand.New(rand.NewSource(3))
	for d := 1; d <= 8; d++ {
		zeros, ones := make([]byte, 8*d), bytes.Repeat([]byte{255}, 8*d)
		for range 100 {
			b := some(random, d)
			lo, hi := code(t, b.Lo), code(t, b.Hi)
			if got, ok := zrange.Skip(zeros, b); !slices.Equal(got, lo) || !ok {
				t.Errorf("%d from zeros on: %d, %t", b, got, ok)
			}
			if got, ok := zrange.Back(ones, b); !slices.Equal(got, hi) || !ok {
				t.Errorf("%d up to ones: %d, %t", b, got, ok)
			}
			if got, ok := zrange.Skip(ones, b); ok != slices.Equal(hi, ones) || ok && !slices.Equal(got, ones) || !ok && len(got) != 0 {
				t.Errorf("%d from ones on: %d, %t", b, got, ok)
			}
			if got, ok := zrange.Back(zeros, b); ok != slices.Equal(lo, zeros) || ok && !slices.Equal(got, zeros) || !ok && len(got) != 0 {
				t.Errorf("%d up to zeros: %d, %t", b, got, ok)
			}
		}
	}
}

// P6.1: none and false, if the code hasn't 8 bytes for each number.
func TestSkipLengths(t *testing.T) {
	for d := 1; d <= 8; d++ {
		for _, b := range []api.Box{box.Whole(d), box.Of(all(d, least)), box.Of(all(d, greatest)), span(all(d, -3), all(d, 9))} {
			for n := range 140 {
				for _, c := range [][]byte{make([]byte, n), bytes.Repeat([]byte{255}, n), append(code(t, b.Lo), make([]byte, n)...)[:n], make([]byte, 200)[:n]} {
					if n == 8*d {
						continue
					}
					refused(t, c, b)
				}
			}
			refused(t, nil, b)
			refused(t, []byte{}, b)
			refused(t, code(t, b.Lo)[1:], b)
			refused(t, append(code(t, b.Lo), 0), b)
			refused(t, append([]byte{0}, code(t, b.Lo)...), b)
		}
	}
}

// P6.1: none and false, if the box isn't right.
func TestSkipBroken(t *testing.T) {
	for _, b := range broken() {
		for n := range 20 {
			refused(t, make([]byte, 8*n), b)
			refused(t, bytes.Repeat([]byte{255}, 8*n), b)
			refused(t, append([]byte{128}, make([]byte, 8*n)...), b)
		}
		refused(t, nil, b)
		for _, p := range []api.Row{b.Lo, b.Hi} {
			if c, err := morton.Code(p); err == api.OK {
				refused(t, c, b)
			}
		}
	}
}

func refused(t *testing.T, c []byte, b api.Box) {
	t.Helper()
	if got, ok := zrange.Skip(c, b); len(got) != 0 || ok {
		t.Errorf("%d, %d bytes: Skip %d, %t", b, len(c), got, ok)
	}
	if got, ok := zrange.Back(c, b); len(got) != 0 || ok {
		t.Errorf("%d, %d bytes: Back %d, %t", b, len(c), got, ok)
	}
}

// P6.1: what is handed in stays as it is, its spare room too; what was told may be written over.
func TestSkipMemory(t *testing.T) {
	random := rand.New(rand.NewSource(4))
	for d := 1; d <= 8; d++ {
		for range 30 {
			b := some(random, d)
			room, below := roomy(b)
			for _, p := range []api.Row{b.Lo, b.Hi, within(random, b), point(random, d)} {
				bytesBelow := slices.Clip(append(code(t, p), 5, 6, 7))
				c := bytesBelow[:8*d]
				for _, seek := range []func([]byte, api.Box) ([]byte, bool){zrange.Skip, zrange.Back} {
					got, ok := seek(c, room)
					again, _ := seek(c, room)
					want := slices.Clone(again)
					overwrite(got)
					if third, okay := seek(c, room); !slices.Equal(again, want) || !slices.Equal(third, want) || ok != okay {
						t.Errorf("%d, %d: answers share memory", b, p)
					}
				}
				if !slices.Equal(bytesBelow, append(code(t, p), 5, 6, 7)) || !stayed(b, below) {
					t.Errorf("%d, %d: an argument was changed", b, p)
				}
			}
		}
	}
}
