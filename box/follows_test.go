package box_test

import (
	"math/rand"
	"slices"
	"testing"

	"indenture/api"
	"indenture/box"
)

// joins holds P4.6's first sentence against a point and two boxes.
func joins(t *testing.T, a, b api.Box, p api.Row) {
	t.Helper()
	inA, inB := box.Has(a, p), box.Has(b, p)
	cut, ok := box.Cut(a, b)
	if box.Has(cut, p) != (inA && inB) || inA && inB && !ok {
		t.Errorf("%d: in %d and %d, in the cut %d", p, a, b, cut)
	}
	if hull := box.Hull(a, b); (inA || inB) && !box.Has(hull, p) {
		t.Errorf("%d: in %d or %d, not in the hull %d", p, a, b, hull)
	}
}

// P4.6: a point of a and of b is in Cut, and the other way round; a point of a or b is in Hull. (A box that isn't right has no point.)
func TestCutAndHullFollow(t *testing.T) {
	points := grid(2, 0, 1, 2)
	for _, a := range boxes(points) {
		for _, b := range boxes(points) {
			for _, p := range points {
				joins(t, a, b, p)
			}
		}
	}
	random := rand.New(rand.NewSource(7))
	for d := 1; d <= 8; d++ {
		for range 300 {
			a, b := wide(random, d), wide(random, d)
			joins(t, a, b, within(random, a))
			joins(t, a, b, within(random, b))
			joins(t, a, b, point(random, d))
			if cut, ok := box.Cut(a, b); ok {
				joins(t, a, b, within(random, cut))
			}
		}
	}
}

// P4.6: a cut is there just where the boxes meet, and is the other one where one holds it.
func TestCutFollowsMeets(t *testing.T) {
	random := rand.New(rand.NewSource(8))
	for d := 1; d <= 8; d++ {
		for range 300 {
			a, b := wide(random, d), wide(random, d)
			if _, ok := box.Cut(a, b); ok != box.Meets(a, b) || ok != box.Meets(b, a) {
				t.Errorf("%d and %d: %t", a, b, ok)
			}
			hull := box.Hull(a, b)
			cut, ok := box.Cut(hull, a)
			if !ok || !box.Same(cut, a) || !box.Holds(hull, a) || !box.Holds(hull, b) || !box.Same(box.Hull(hull, b), hull) {
				t.Errorf("%d and %d: the hull %d", a, b, hull)
			}
		}
	}
}

// P4.6: if Beyond holds, p is ahead of each point of the box; each of a few numbers.
func TestBeyondFollows(t *testing.T) {
	random := rand.New(rand.NewSource(9))
	points := grid(2, -1, 0, 1, 2)
	held := 0
	for _, b := range slices.DeleteFunc(boxes(points), turned) {
		for _, o := range append(orders(random, 2), near(2), near(-5)) {
			for _, p := range points {
				if !box.Beyond(o, b, p) {
					continue
				}
				held++
				for _, q := range points {
					if box.Has(b, q) && !box.Ahead(o, p, q) {
						t.Errorf("%v: %d isn't ahead of %d of %d", o, p, q, b)
					}
				}
			}
		}
	}
	if held == 0 {
		t.Error("it never held")
	}
}

// P4.6: the same of points of each count of dimensions.
func TestBeyondFollowsFar(t *testing.T) {
	random := rand.New(rand.NewSource(10))
	for d := 1; d <= 8; d++ {
		held := 0
		for range 500 {
			b, p := wide(random, d), point(random, d)
			for _, o := range orders(random, d) {
				if !box.Beyond(o, b, p) {
					continue
				}
				held++
				for range 5 {
					if q := within(random, b); !box.Ahead(o, p, q) {
						t.Errorf("%v: %d isn't ahead of %d of %d", o, p, q, b)
					}
				}
			}
		}
		if held == 0 {
			t.Errorf("%d dimensions: it never held", d)
		}
	}
}

// ranks holds P4.6's last sentence against three rows.
func ranks(t *testing.T, o api.Order, p, q, r api.Row) {
	t.Helper()
	pq, qp, qr, pr := box.Ahead(o, p, q), box.Ahead(o, q, p), box.Ahead(o, q, r), box.Ahead(o, p, r)
	if box.Ahead(o, p, p) || pq && qp {
		t.Errorf("%v: %d and %d are ahead of each other", o, p, q)
	}
	if p[0] != q[0] && !pq && !qp {
		t.Errorf("%v: neither of %d and %d is ahead", o, p, q)
	}
	if pq && qr && !pr || !pq && !qr && pr {
		t.Errorf("%v: %d, %d and %d are in no order", o, p, q, r)
	}
}

// P4.6: Ahead is an order of all rows: of two unlike ids one is ahead.
func TestAheadFollows(t *testing.T) {
	random := rand.New(rand.NewSource(11))
	points := grid(2, least, -1, 0, 1, greatest)
	for _, o := range append(orders(random, 2), near(-1)) {
		for _, p := range points {
			for _, q := range points {
				for _, r := range points {
					ranks(t, o, p, q, r)
				}
			}
		}
	}
	for d := 1; d <= 8; d++ {
		for range 200 {
			for _, o := range orders(random, d) {
				p, q := point(random, d), point(random, d)
				r := slices.Clone(q)
				r[0] = point(random, 1)[0]
				ranks(t, o, p, q, r)
				ranks(t, o, q, p, r)
			}
		}
	}
}
