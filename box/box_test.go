package box_test

import (
	"math/rand"
	"slices"
	"testing"

	"indenture/api"
	"indenture/box"
)

// P4.1
func TestRightKnown(t *testing.T) {
	right := []api.Box{
		span(api.Row{0}, api.Row{0}), span(api.Row{least}, api.Row{greatest}), span(api.Row{least}, api.Row{least}), span(api.Row{greatest}, api.Row{greatest}),
		span(api.Row{1, 2}, api.Row{3, 4}), span(api.Row{-5, 2}, api.Row{-5, 2}),
		span(all(8, least), all(8, greatest)), span(all(8, 7), all(8, 7)),
	}
	for _, b := range right {
		for d := -2; d <= 20; d++ {
			if got := box.Right(b, d); got != (d == len(b.Lo)) {
				t.Errorf("%d of %d: %t", b, d, got)
			}
		}
	}
	for name, b := range broken() {
		for _, d := range []int{least, -1, 0, 1, 2, 3, 7, 8, 9, 10, 17, 1 << 30, greatest} {
			if box.Right(b, d) {
				t.Errorf("%s of %d", name, d)
			}
		}
	}
}

// P4.1: of each count of dimensions, one side at a time being turned.
func TestRightSides(t *testing.T) {
	for d := range 12 {
		b := span(all(d, -3), all(d, 3))
		if got := box.Right(b, d); got != (d >= 1 && d <= 8) {
			t.Errorf("%d dimensions: %t", d, got)
		}
		for i := range d {
			turn := span(slices.Clone(b.Lo), slices.Clone(b.Hi))
			turn.Lo[i] = 4
			if box.Right(turn, d) {
				t.Errorf("%d dimensions, turned at %d", d, i)
			}
		}
		for e := range 12 {
			if e != d && (box.Right(span(all(d, 0), all(e, 1)), d) || box.Right(span(all(e, 0), all(d, 1)), d)) {
				t.Errorf("corners of %d and %d", d, e)
			}
		}
	}
}

// P4.1
func TestWhole(t *testing.T) {
	for _, d := range []int{least, -1, 0, 9, 10, 16, 1 << 40, greatest} {
		wants(t, "whole", box.Whole(d), nil, nil)
	}
	for d := 1; d <= 8; d++ {
		wants(t, "whole", box.Whole(d), all(d, least), all(d, greatest))
	}
}

// P4.1
func TestOf(t *testing.T) {
	for d := range 20 {
		p := all(d, 1)
		for i := range p {
			p[i] = int64(i) - 3
		}
		want := p
		if d < 1 || d > 8 {
			want = nil
		}
		wants(t, "a point's", box.Of(p), want, want)
	}
	wants(t, "none's", box.Of(nil), nil, nil)
	wants(t, "an edge's", box.Of(api.Row{least, greatest}), api.Row{least, greatest}, api.Row{least, greatest})
}

// P4.1: an answer is new memory: it shares none with an argument, nor do its corners share any.
func TestBoxesAreNew(t *testing.T) {
	p, q := api.Row{1, 2, 3}, api.Row{4, 5, 6}
	cut, _ := box.Cut(span(p, q), span(p, q))
	for name, b := range map[string]api.Box{
		"Whole": box.Whole(3), "Of": box.Of(p), "Cut": cut,
		"Hull": box.Hull(span(p, q), span(p, q)), "Hull of the first": box.Hull(span(p, q), api.Box{}), "Hull of the second": box.Hull(api.Box{}, span(p, q)),
	} {
		hi := slices.Clone(b.Hi)
		lo := b.Lo[:cap(b.Lo)]
		for i := range lo {
			lo[i] = 77
		}
		if !slices.Equal(b.Hi, hi) {
			t.Errorf("%s: its corners share memory", name)
		}
		up := b.Hi[:cap(b.Hi)]
		for i := range up {
			up[i] = 78
		}
		if !slices.Equal(b.Lo, all(3, 77)) {
			t.Errorf("%s: its corners share memory", name)
		}
	}
	if !slices.Equal(p, api.Row{1, 2, 3}) || !slices.Equal(q, api.Row{4, 5, 6}) {
		t.Error("an answer shares memory with an argument", p, q)
	}
	wants(t, "whole again", box.Whole(3), all(3, least), all(3, greatest))
}

// P4.1
func TestHasKnown(t *testing.T) {
	for _, k := range []struct {
		b    api.Box
		p    api.Row
		want bool
	}{
		{span(api.Row{1, 2}, api.Row{3, 5}), api.Row{1, 2}, true},
		{span(api.Row{1, 2}, api.Row{3, 5}), api.Row{3, 5}, true},
		{span(api.Row{1, 2}, api.Row{3, 5}), api.Row{2, 3}, true},
		{span(api.Row{1, 2}, api.Row{3, 5}), api.Row{0, 3}, false},
		{span(api.Row{1, 2}, api.Row{3, 5}), api.Row{2, 6}, false},
		{span(api.Row{1, 2}, api.Row{3, 5}), api.Row{2}, false},
		{span(api.Row{1, 2}, api.Row{3, 5}), api.Row{2, 3, 4}, false},
		{span(api.Row{1}, api.Row{3}), nil, false},
		{span(api.Row{least}, api.Row{greatest}), api.Row{least}, true},
		{span(api.Row{least}, api.Row{greatest}), api.Row{greatest}, true},
		{span(api.Row{least}, api.Row{greatest - 1}), api.Row{greatest}, false},
		{span(api.Row{least + 1}, api.Row{greatest}), api.Row{least}, false},
		{span(all(8, 1), all(8, 2)), api.Row{1, 2, 1, 2, 1, 2, 1, 2}, true},
		{span(all(8, 1), all(8, 2)), api.Row{1, 2, 1, 2, 1, 2, 1, 3}, false},
	} {
		if got := box.Has(k.b, k.p); got != k.want {
			t.Errorf("%d in %d: %t", k.p, k.b, got)
		}
	}
}

// P4.1: no point of whatever count of numbers is in a box that isn't right.
func TestHasRefused(t *testing.T) {
	for name, b := range broken() {
		for n := range 20 {
			if box.Has(b, all(n, 1)) || box.Has(b, all(n, 2)) {
				t.Errorf("%s has a point of %d", name, n)
			}
		}
		if box.Has(b, nil) {
			t.Errorf("%s has none", name)
		}
	}
}

// P4.1: all boxes and points of a few numbers, by the points of the boxes one by one.
func TestHasMeetsHoldsAll(t *testing.T) {
	for i, numbers := range [][]int64{{least, -1, 0, 1, 2, greatest}, {0, 1, 2}} {
		points := grid(i+1, numbers...)
		for _, a := range boxes(points) {
			for _, p := range points {
				if got := box.Has(a, p); got != inside(a, p) {
					t.Errorf("%d in %d: %t", p, a, got)
				}
			}
			for _, b := range boxes(points) {
				meets, holds := false, true
				for _, p := range points { // a box's corners are points of it, so these are enough
					meets = meets || inside(a, p) && inside(b, p)
					holds = holds && (inside(a, p) || !inside(b, p))
				}
				right := !turned(a) && !turned(b)
				if got := box.Meets(a, b); got != (right && meets) {
					t.Errorf("%d meets %d: %t", a, b, got)
				}
				if got := box.Holds(a, b); got != (right && holds) {
					t.Errorf("%d holds %d: %t", a, b, got)
				}
			}
		}
	}
}

// P4.1: a side of each place tells two boxes apart, or lets one stand out of the other one.
func TestMeetsHoldsSides(t *testing.T) {
	for d := 1; d <= 8; d++ {
		a := span(all(d, 0), all(d, 5))
		for i := range d {
			for _, k := range []struct {
				lo, hi       int64
				meets, holds bool
			}{
				{0, 5, true, true}, {1, 4, true, true}, {5, 5, true, true}, {0, 0, true, true}, {5, 6, true, false}, {-1, 0, true, false}, {-1, 6, true, false}, {-1, 3, true, false}, {3, 6, true, false},
				{6, 6, false, false}, {-1, -1, false, false}, {least, -1, false, false}, {6, greatest, false, false}, {least, greatest, true, false},
			} {
				b := span(all(d, 0), all(d, 5))
				b.Lo[i], b.Hi[i] = k.lo, k.hi
				if box.Meets(a, b) != k.meets || box.Meets(b, a) != k.meets || box.Holds(a, b) != k.holds {
					t.Errorf("%d and %d: %t, %t, %t", a, b, box.Meets(a, b), box.Meets(b, a), box.Holds(a, b))
				}
			}
		}
	}
}

// P4.1: false, if a box isn't right, or they haven't as many dimensions.
func TestMeetsHoldsRefused(t *testing.T) {
	for name, b := range broken() {
		for d := 1; d <= 8; d++ {
			for _, a := range []api.Box{box.Whole(d), box.Of(all(d, 1))} {
				if box.Meets(a, b) || box.Meets(b, a) || box.Holds(a, b) || box.Holds(b, a) {
					t.Errorf("%s and one of %d", name, d)
				}
			}
		}
		for other, a := range broken() {
			if box.Meets(a, b) || box.Holds(a, b) {
				t.Errorf("%s and %s", other, name)
			}
		}
	}
	for d := 1; d <= 8; d++ {
		for e := 1; e <= 8; e++ {
			if box.Meets(box.Whole(d), box.Whole(e)) != (d == e) || box.Holds(box.Whole(d), box.Whole(e)) != (d == e) {
				t.Errorf("of %d and %d", d, e)
			}
		}
	}
}

// P4.1: the corners alone count, whether the boxes are right or not; nil and empty are the same.
func TestSame(t *testing.T) {
	for name, b := range broken() {
		if !box.Same(b, span(slices.Clone(b.Lo), slices.Clone(b.Hi))) {
			t.Errorf("%s isn't its copy", name)
		}
	}
	if !box.Same(api.Box{}, span(api.Row{}, api.Row{})) || !box.Same(span(api.Row{}, nil), span(nil, api.Row{})) {
		t.Error("nil and empty")
	}
	for _, n := range []int{1, 2} {
		l := boxes(grid(n, least, 0, greatest))
		for i, a := range l {
			for j, b := range l {
				if got := box.Same(a, b); got != (i == j) {
					t.Errorf("%d and %d: %t", a, b, got)
				}
			}
		}
	}
	for d := 1; d <= 8; d++ {
		a := span(all(d, 1), all(d, 2))
		for i := range d {
			lo, hi := span(all(d, 1), all(d, 2)), span(all(d, 1), all(d, 2))
			lo.Lo[i], hi.Hi[i] = 0, 3
			if box.Same(a, lo) || box.Same(a, hi) || box.Same(lo, a) || box.Same(hi, a) || !box.Same(a, span(all(d, 1), all(d, 2))) {
				t.Errorf("%d dimensions, the side %d", d, i)
			}
		}
		short := span(all(d-1, 1), all(d-1, 2))
		if box.Same(a, short) || box.Same(short, a) || box.Same(a, span(a.Lo, short.Hi)) || box.Same(a, span(short.Lo, a.Hi)) || box.Same(a, api.Box{}) {
			t.Errorf("%d dimensions and one less", d)
		}
	}
}

// P4.2: the chapter's examples, and edges.
func TestHullKnown(t *testing.T) {
	wants(t, "the example", box.Hull(span(api.Row{1, 2}, api.Row{3, 4}), span(api.Row{0, 3}, api.Row{2, 9})), api.Row{0, 2}, api.Row{3, 9})
	wants(t, "apart", box.Hull(box.Of(api.Row{5, -5}), box.Of(api.Row{-5, 5})), api.Row{-5, -5}, api.Row{5, 5})
	wants(t, "edges", box.Hull(box.Of(api.Row{least}), box.Of(api.Row{greatest})), api.Row{least}, api.Row{greatest})
	wants(t, "within", box.Hull(box.Whole(8), box.Of(all(8, 3))), all(8, least), all(8, greatest))
	wants(t, "one", box.Hull(box.Of(all(8, 3)), box.Of(all(8, 3))), all(8, 3), all(8, 3))
	for d := 1; d <= 8; d++ {
		for i := range d {
			lo, hi := all(d, 0), all(d, 0)
			lo[i], hi[i] = -1, 1
			wants(t, "a lower side", box.Hull(box.Of(all(d, 0)), box.Of(lo)), lo, all(d, 0))
			wants(t, "an upper side", box.Hull(box.Of(all(d, 0)), box.Of(hi)), all(d, 0), hi)
		}
	}
}

// P4.2: all boxes of a few numbers: the hull holds both, and whichever box holds both holds it.
func TestHullAll(t *testing.T) {
	for i, numbers := range [][]int64{{least, -1, 0, 1, greatest}, {0, 1, 2}} {
		l := slices.DeleteFunc(boxes(grid(i+1, numbers...)), turned)
		for _, a := range l {
			for _, b := range l {
				h := box.Hull(a, b)
				if !box.Holds(h, a) || !box.Holds(h, b) {
					t.Errorf("%d and %d: %d", a, b, h)
				}
				for _, c := range l {
					if box.Holds(c, a) && box.Holds(c, b) && !box.Holds(c, h) {
						t.Errorf("%d and %d: %d is less than %d", a, b, c, h)
					}
				}
			}
		}
	}
}

// P4.2: one of them, if the other one isn't right, whatever its corners have; zero, if neither is, or they haven't as many dimensions.
func TestHullRefused(t *testing.T) {
	for name, b := range broken() {
		for d := 1; d <= 8; d++ {
			lo, hi := all(d, -4), all(d, 9)
			wants(t, name+" behind one", box.Hull(span(lo, hi), b), lo, hi)
			wants(t, name+" ahead of one", box.Hull(b, span(lo, hi)), lo, hi)
		}
		for other, a := range broken() {
			wants(t, name+" and "+other, box.Hull(a, b), nil, nil)
		}
		wants(t, name+" twice", box.Hull(b, b), nil, nil)
	}
	for d := 1; d <= 8; d++ {
		for e := 1; e <= 8; e++ {
			if d != e {
				wants(t, "unlike dimensions", box.Hull(box.Whole(d), box.Of(all(e, 1))), nil, nil)
			}
		}
	}
}

// cuts holds Cut against the box that it must be, both ways; a zero one of none.
func cuts(t *testing.T, a, b api.Box, lo, hi api.Row) {
	t.Helper()
	for _, pair := range [][2]api.Box{{a, b}, {b, a}} {
		got, ok := box.Cut(pair[0], pair[1])
		if ok != (lo != nil) {
			t.Errorf("%d and %d: %t", pair[0], pair[1], ok)
		}
		wants(t, "a cut", got, lo, hi)
	}
}

// P4.2: the chapter's example, and edges.
func TestCutKnown(t *testing.T) {
	cuts(t, span(api.Row{1, 2}, api.Row{3, 4}), span(api.Row{0, 3}, api.Row{2, 9}), api.Row{1, 3}, api.Row{2, 4})
	cuts(t, span(api.Row{1, 2}, api.Row{3, 4}), span(api.Row{3, 4}, api.Row{5, 6}), api.Row{3, 4}, api.Row{3, 4})
	cuts(t, span(api.Row{1, 2}, api.Row{3, 4}), span(api.Row{4, 4}, api.Row{5, 6}), nil, nil)
	cuts(t, span(api.Row{1, 2}, api.Row{3, 4}), span(api.Row{3, 5}, api.Row{5, 6}), nil, nil)
	cuts(t, span(api.Row{least}, api.Row{0}), span(api.Row{0}, api.Row{greatest}), api.Row{0}, api.Row{0})
	cuts(t, span(api.Row{least}, api.Row{0}), span(api.Row{1}, api.Row{greatest}), nil, nil)
	cuts(t, box.Whole(1), box.Of(api.Row{least}), api.Row{least}, api.Row{least})
	cuts(t, box.Whole(8), box.Of(all(8, greatest)), all(8, greatest), all(8, greatest))
	cuts(t, box.Whole(8), box.Whole(8), all(8, least), all(8, greatest))
	for d := 1; d <= 8; d++ {
		for i := range d {
			lo, hi := all(d, 0), all(d, 5)
			lo[i] = 5
			cuts(t, span(all(d, 0), all(d, 5)), span(lo, all(d, 9)), lo, hi)
			lo[i] = 6
			cuts(t, span(all(d, 0), all(d, 5)), span(lo, all(d, 9)), nil, nil)
		}
	}
}

// P4.2: zero and false, if a box isn't right, or they haven't as many dimensions.
func TestCutRefused(t *testing.T) {
	for _, b := range broken() {
		for d := 1; d <= 8; d++ {
			cuts(t, b, box.Whole(d), nil, nil)
			cuts(t, b, box.Of(all(d, 1)), nil, nil)
		}
		for _, a := range broken() {
			cuts(t, a, b, nil, nil)
		}
	}
	for d := 1; d <= 8; d++ {
		for e := d + 1; e <= 8; e++ {
			cuts(t, box.Whole(d), box.Whole(e), nil, nil)
		}
	}
}

// P4.1, P4.2: what is handed in stays as it is, its spare room too; nor does what stands in spare room count.
func TestBoxArgumentsStay(t *testing.T) {
	lo, hi, p := api.Row{1, 2, 9, 9}, api.Row{5, 6, 0, 0}, api.Row{3, 4, 50, 50}
	b := span(lo[:2], hi[:2])
	if !box.Right(b, 2) || !box.Has(b, p[:2]) || !box.Meets(b, box.Of(p[:2])) || !box.Holds(b, box.Of(p[:2])) || !box.Same(b, span(api.Row{1, 2}, api.Row{5, 6})) {
		t.Error("spare room counts")
	}
	random := rand.New(rand.NewSource(1))
	for range 100 {
		other := wide(random, 2)
		box.Hull(b, other)
		box.Hull(other, b)
		box.Cut(b, other)
		box.Cut(other, b)
	}
	box.Hull(b, api.Box{})
	box.Hull(api.Box{}, b)
	box.Of(lo[:2])
	if !slices.Equal(lo, api.Row{1, 2, 9, 9}) || !slices.Equal(hi, api.Row{5, 6, 0, 0}) || !slices.Equal(p, api.Row{3, 4, 50, 50}) {
		t.Error("an argument was changed", lo, hi, p)
	}
}
