package zrange_test

import (
	"math/big"
	"math/rand"
	"slices"
	"testing"

	"indenture/api"
	"indenture/box"
	"indenture/morton"
	"indenture/zrange"
)

// ordered holds boxes against the one whose points they must have together: apart, in order, all points.
func ordered(t *testing.T, b api.Box, l []api.Box) {
	t.Helper()
	points := new(big.Int)
	for i, part := range l {
		points.Add(points, countOf(part))
		if !box.Holds(b, part) {
			t.Errorf("%d: %d isn't in it", b, part)
		}
		if i > 0 && morton.Cmp(code(t, l[i-1].Hi), code(t, part.Lo)) != -1 {
			t.Errorf("%d: %d isn't ahead of %d", b, l[i-1], part)
		}
		for _, other := range l[:i] {
			if box.Meets(part, other) {
				t.Errorf("%d: %d and %d meet", b, other, part)
			}
		}
	}
	if points.Cmp(countOf(b)) != 0 {
		t.Errorf("%d: %d points of %d", b, points, countOf(b))
	}
}

// once holds boxes against all points of one that has few: each is in just one of them, and they stand in order.
func once(t *testing.T, b api.Box, l []api.Box) {
	t.Helper()
	now := 0
	for _, p := range inOrder(t, b) {
		var in []int
		for i, part := range l {
			if box.Has(part, p) {
				in = append(in, i)
			}
		}
		if len(in) != 1 || in[0] < now {
			t.Fatalf("%d of %d: in %d of %d", p, b, in, l)
		}
		now = in[0]
	}
}

// P6.4: Split's parts are apart, have all points of the box, and all codes of the lower one stand ahead of all of the upper one.
func TestPartsFollow(t *testing.T) {
	random := rand.New(rand.NewSource(14))
	for d := 1; d <= 8; d++ {
		boxes := sided(d)
		for range 200 {
			boxes = append(boxes, some(random, d))
		}
		width := []int64{9, 4, 3, 2, 2, 2, 1, 1}[d-1]
		for _, at := range windows(d, width) {
			boxes = append(boxes, smallest(at, width)...)
		}
		for _, b := range boxes {
			lower, upper, ok := zrange.Split(b)
			if ok == slices.Equal(b.Lo, b.Hi) {
				t.Errorf("%d: %t", b, ok)
			}
			if !ok {
				continue
			}
			ordered(t, b, []api.Box{lower, upper})
			if few(b) {
				once(t, b, []api.Box{lower, upper})
			}
			for range 5 {
				p, q := within(random, lower), within(random, upper)
				if !box.Has(b, p) || !box.Has(b, q) || !morton.Ahead(p, q) {
					t.Errorf("%d: %d of the lower part isn't ahead of %d", b, p, q)
				}
			}
		}
	}
}

// P6.4: a box is split again and again down to its points, by no more splits than a code has bits.
func TestPartsEnd(t *testing.T) {
	random := rand.New(rand.NewSource(15))
	for d := 1; d <= 8; d++ {
		for _, upper := range []bool{false, true} {
			b, splits := box.Whole(d), 0
			for !slices.Equal(b.Lo, b.Hi) {
				b1, b2 := split(t, b)
				b = b1
				if upper {
					b = b2
				}
				splits++
			}
			if splits != 64*d {
				t.Errorf("%d dimensions: %d splits", d, splits)
			}
		}
		p, b := point(random, d), box.Whole(d)
		for !slices.Equal(b.Lo, b.Hi) {
			lower, upper := split(t, b)
			b = lower
			if box.Has(upper, p) {
				b = upper
			}
		}
		if !slices.Equal(b.Lo, p) {
			t.Errorf("%d: ended at %d", p, b)
		}
	}
}

// P6.4: ranges are apart, have all points of the box, and stand in order.
func TestRangesFollow(t *testing.T) {
	random := rand.New(rand.NewSource(16))
	for d := 1; d <= 8; d++ {
		for depth := range 11 {
			for range 5 {
				b := some(random, d)
				l := ranges(t, b, depth)
				if len(l) < 200 {
					ordered(t, b, l)
				}
				if few(b) {
					once(t, b, l)
				}
			}
		}
		width := []int64{9, 4, 3, 2, 2, 2, 1, 1}[d-1]
		for _, at := range windows(d, width) {
			for i, b := range smallest(at, width) {
				once(t, b, ranges(t, b, i%11))
			}
		}
	}
}

// P6.4: so many ranges as there may be.
func TestRangesFollowMany(t *testing.T) {
	b := span(all(8, 1), all(8, 14))
	ordered(t, b, ranges(t, b, 10))
}

// P6.4: a block's codes are as many as its points; and of a box that is none there are more.
func TestBlocksFollow(t *testing.T) {
	random := rand.New(rand.NewSource(17))
	for d := 1; d <= 8; d++ {
		for range 100 {
			for _, b := range ranges(t, some(random, d), random.Intn(7)) {
				more := codesOf(t, b).Cmp(countOf(b))
				if zrange.Block(b) != (more == 0) || more < 0 {
					t.Errorf("%d: %d points, %d codes", b, countOf(b), codesOf(t, b))
				}
			}
		}
	}
}

// P6.4: a scan by Skip alone meets each point of a box once, in order, and one by Back meets them backwards.
func TestScansFollow(t *testing.T) {
	random := rand.New(rand.NewSource(18))
	for d := 1; d <= 8; d++ {
		for range 60 {
			b := some(random, d)
			if !few(b) {
				continue
			}
			want := inOrder(t, b)
			if got := forwards(t, b); !slices.EqualFunc(got, want, slices.Equal) {
				t.Errorf("%d: %d", b, got)
			}
			slices.Reverse(want)
			if got := backwards(t, b); !slices.EqualFunc(got, want, slices.Equal) {
				t.Errorf("%d backwards: %d", b, got)
			}
		}
	}
}

func forwards(t *testing.T, b api.Box) []api.Row {
	t.Helper()
	var l []api.Row
	c := make([]byte, 8*len(b.Lo))
	for {
		got, ok := zrange.Skip(c, b)
		if !ok {
			return l
		}
		p, _ := morton.Point(got, len(b.Lo))
		l = append(l, p)
		if c, ok = morton.Next(got); !ok {
			return l
		}
	}
}

func backwards(t *testing.T, b api.Box) []api.Row {
	t.Helper()
	var l []api.Row
	p := all(len(b.Lo), greatest)
	for {
		got, ok := zrange.Back(code(t, p), b)
		if !ok {
			return l
		}
		p, _ = morton.Point(got, len(b.Lo))
		l = append(l, p)
		next, ok := morton.Next(code(t, mirror(p)))
		if !ok {
			return l
		}
		p, _ = morton.Point(next, len(b.Lo))
		p = mirror(p)
	}
}
