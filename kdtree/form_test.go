package kdtree_test

import (
	"math/rand"
	"slices"
	"testing"

	"indenture/api"
	"indenture/kdtree"
	"indenture/node"
	"indenture/page"
)

// grown tells a tree of chance of points of d numbers, some of whose Forks are tombstones, and the points from which its rows came.
func grown(t *testing.T, random *rand.Rand, d, steps int) (*script, []api.Row) {
	t.Helper()
	c := begin(d)
	all := points(random, d, steps, []int64{0, 1, 2, 3, 4, 5})
	for i, p := range all {
		p[0] += int64(i / 4)
		if e := c.tree.entry(p); e != nil {
			continue
		}
		c.insert(t, p)
		if random.Intn(3) == 0 {
			c.delete(t, all[random.Intn(i+1)])
		}
	}
	return c, all
}

// lacks: is one of some Forks one of others?
func lacks(missing, needed []*tree) bool {
	return slices.ContainsFunc(missing, func(x *tree) bool { return slices.Contains(needed, x) })
}

// asked holds against all calls with a store in which nodes of a tree are missing: ErrForm, just where one of them is needed, and nothing is put then; else what is told of the whole tree.
func asked(t *testing.T, s *page.Store, x *tree, d int, rows []api.Row, missing []*tree, counts map[string]int) {
	t.Helper()
	k, all := x.kid(), x.all()
	if got, err := kdtree.Rows(s, k, d); lacks(missing, all) && (err != api.ErrForm || len(got) > 0) {
		t.Errorf("Rows: %d, error %d", got, err)
	}
	if got, err := kdtree.Height(s, k, d); lacks(missing, all) && (err != api.ErrForm || got != 0) {
		t.Errorf("Height: %d, error %d", got, err)
	}
	for _, p := range rows {
		way, e := x.way(p), x.entry(p)
		there := e != nil && e.live
		lost := lacks(missing, way)
		want := api.OK
		if lost {
			want = api.ErrForm
		}
		if ok, err := kdtree.Has(s, k, p, d); err != want || ok != (there && !lost) {
			t.Errorf("Has %d: %t, error %d, not %d", p, ok, err, want)
		}
		counts["has"] += one(lost)
		askedInsert(t, s, x, d, p, missing, counts)
		askedDelete(t, s, x, d, p, missing, counts)
	}
}

func one(is bool) int {
	if is {
		return 1
	}
	return 0
}

// askedInsert is asked of Insert: it needs the way, and the trees of Forks that are heavy.
func askedInsert(t *testing.T, s *page.Store, x *tree, d int, p api.Row, missing []*tree, counts map[string]int) {
	t.Helper()
	var y *tree
	var heavies []*tree
	e := x.entry(p)
	there := e != nil && e.live
	if !there {
		y = x.inserted(p, 0, new(tally), &heavies)
	}
	needed := slices.Clone(x.way(p))
	want := api.OK
	switch {
	case lacks(missing, needed):
		want = api.ErrForm
	case there:
		want = api.ErrDup
	}
	for _, h := range heavies {
		if want == api.OK && lacks(missing, h.all()) {
			want = api.ErrForm
			counts["heavy"]++
		}
	}
	s = again(s)
	pages := s.Len()
	k, err := kdtree.Insert(s, x.kid(), p, d)
	if want != api.OK {
		refused(t, s, pages, k, err, want, "Insert", p)
	} else if !node.Same(k, y.kid()) || err != api.OK {
		t.Errorf("Insert %d: %+v, error %d", p, k, err)
	}
	counts["insert"] += one(want == api.OK)
	counts["there"] += one(want == api.ErrDup)
}

// askedDelete is asked of Delete: it needs the way, and the whole tree, where that is laid anew.
func askedDelete(t *testing.T, s *page.Store, x *tree, d int, p api.Row, missing []*tree, counts map[string]int) {
	t.Helper()
	e := x.entry(p)
	var y *tree
	want, whole := api.OK, false
	switch {
	case lacks(missing, x.way(p)):
		want = api.ErrForm
	case e == nil || !e.live:
		want = api.ErrNone
	default:
		if y, whole = x.deleted(p, new(tally)); whole && lacks(missing, x.all()) {
			want = api.ErrForm
			counts["whole"]++
		}
	}
	s = again(s)
	pages := s.Len()
	k, err := kdtree.Delete(s, x.kid(), p, d)
	if want != api.OK {
		refused(t, s, pages, k, err, want, "Delete", p)
	} else if !node.Same(k, y.kid()) || err != api.OK {
		t.Errorf("Delete %d: %+v, error %d", p, k, err)
	}
	counts["delete"] += one(want == api.OK)
	counts["none"] += one(want == api.ErrNone)
}

// again tells a store with the same pages.
func again(s *page.Store) *page.Store {
	c := page.New()
	for _, sum := range s.Sums() {
		b, _ := s.Get(sum)
		c.Put(b)
	}
	return c
}

// P11.2 to P11.4: trees one of whose nodes, whichever, isn't in the store: ErrForm, where it is needed, ahead of all that would be put; behind ErrDup and ErrNone, for which it isn't.
func TestMissing(t *testing.T) {
	random := rand.New(rand.NewSource(1))
	counts := map[string]int{}
	for _, d := range []int{1, 2, 3, 8} {
		for _, steps := range []int{1, 2, 3, 7, 13, 18} {
			c, rows := grown(t, random, d, steps)
			rows = append(rows, points(random, d, 6, []int64{-5, 30, 40})...)
			for _, x := range c.tree.all() {
				asked(t, c.tree.without(t, x), c.tree, d, rows, []*tree{x}, counts)
			}
		}
	}
	for _, what := range []string{"has", "heavy", "insert", "there", "whole", "delete", "none"} {
		if counts[what] < 10 {
			t.Errorf("%s: %d times", what, counts[what])
		}
	}
}

// P11.2 to P11.4: no node at all is in the store: ErrForm of each tree that isn't the empty one.
func TestMissingAll(t *testing.T) {
	random := rand.New(rand.NewSource(2))
	for d := 1; d <= 8; d++ {
		c, rows := grown(t, random, d, 9)
		asked(t, page.New(), c.tree, d, rows, c.tree.all(), map[string]int{})
	}
}

// falsehoods tells kids that say something else than a kid does.
func falsehoods(k api.Kid) []api.Kid {
	var l []api.Kid
	add := func(turn func(k *api.Kid)) {
		other := copyKid(k)
		turn(&other)
		l = append(l, other)
	}
	add(func(k *api.Kid) { k.Sum[0] ^= 1 })
	add(func(k *api.Kid) { k.Sum[31] ^= 128 })
	add(func(k *api.Kid) { k.Sum = api.Digest{} })
	for _, by := range []int{-1, 1, 1 << 40, -1 << 40} {
		add(func(k *api.Kid) { k.Live += by })
		add(func(k *api.Kid) { k.Size += by })
		add(func(k *api.Kid) { k.Live, k.Size = k.Live+by, k.Size+by })
	}
	add(func(k *api.Kid) { k.Box = api.Box{} })
	add(func(k *api.Kid) { k.Box.Lo = nil })
	add(func(k *api.Kid) { k.Box.Hi = append(k.Box.Hi, 0) })
	if k.Live > 0 {
		add(func(k *api.Kid) { k.Box.Hi[0]++ })
		add(func(k *api.Kid) { k.Box.Lo[0]-- })
	}
	add(func(k *api.Kid) { k.Key = slices.Clone(k.Box.Lo); k.Key = append(k.Key, 3) })
	return l
}

// forms holds against all calls with a tree that can't be got as a whole, for a row on whose way the wrong node stands.
func forms(t *testing.T, s *page.Store, k api.Kid, p api.Row, d int, what ...any) {
	t.Helper()
	pages := s.Len()
	more, err := kdtree.Insert(s, k, p, d)
	refused(t, s, pages, more, err, api.ErrForm, "Insert", what)
	less, err := kdtree.Delete(s, k, p, d)
	refused(t, s, pages, less, err, api.ErrForm, "Delete", what)
	ok, err := kdtree.Has(s, k, p, d)
	if ok || err != api.ErrForm {
		t.Errorf("Has: %t, error %d: %v", ok, err, what)
	}
	rows, err := kdtree.Rows(s, k, d)
	if len(rows) > 0 || err != api.ErrForm {
		t.Errorf("Rows: %d, error %d: %v", rows, err, what)
	}
	height, err := kdtree.Height(s, k, d)
	if height != 0 || err != api.ErrForm {
		t.Errorf("Height: %d, error %d: %v", height, err, what)
	}
	if s.Len() != pages {
		t.Errorf("%d pages were put: %v", s.Len()-pages, what)
	}
}

// P11.2 to P11.4: a root that says something else than its node: ErrForm.
func TestFalseRoots(t *testing.T) {
	random := rand.New(rand.NewSource(3))
	for d := 1; d <= 8; d++ {
		c, rows := grown(t, random, d, 10)
		for i, k := range falsehoods(c.kid) {
			for _, p := range rows {
				forms(t, c.store, k, p, d, d, i)
			}
		}
	}
}

// P11.2 to P11.4: a node further down that says something else than its Fork says of it: ErrForm, where the way goes there.
func TestFalseKids(t *testing.T) {
	random := rand.New(rand.NewSource(4))
	for d := 1; d <= 8; d++ {
		s := page.New()
		l := line(d, 0, 3)
		x := laid(l, 0)
		x.put(t, s)
		other, _ := kdtree.Build(s, points(random, d, 3, wide), d)
		for i := range 2 {
			for j, wrong := range append(falsehoods(x.kids[i].kid()), falsehoods(other)...) {
				n := x.node()
				n.Kids[i] = wrong
				k, err := node.Put(s, n, d)
				if err != api.OK {
					continue // no node says so
				}
				forms(t, s, k, x.kids[i].row, d, d, i, j)
				if ok, err := kdtree.Has(s, k, x.kids[1-i].row, d); !ok || err != api.OK {
					t.Errorf("Has: %t, error %d: %d, %d, %d", ok, err, d, i, j)
				}
			}
		}
	}
}

// P11.2 to P11.4: nodes of the other tree, a Leaf and an Inner, as a root: they are none of this one; ErrForm.
func TestOtherTreesNodes(t *testing.T) {
	for d := 1; d <= 8; d++ {
		s := page.New()
		l := line(d, 0, 4)
		var kids []api.Kid
		for _, p := range l {
			k, err := node.Put(s, api.Node{Kind: 2, Rows: []api.Entry{{Row: p, Live: true}}}, d)
			if err != api.OK {
				t.Fatalf("error %d", err)
			}
			kids = append(kids, k)
		}
		inner, err := node.Put(s, api.Node{Kind: 3, Kids: kids}, d)
		if err != api.OK {
			t.Fatalf("error %d", err)
		}
		four, err := node.Put(s, api.Node{Kind: 2, Rows: []api.Entry{{Row: l[0], Live: true}, {Row: l[1], Live: true}, {Row: l[2], Live: true}, {Row: l[3], Live: true}}}, d)
		if err != api.OK {
			t.Fatalf("error %d", err)
		}
		for i, k := range append(kids, inner, four) {
			for _, p := range l {
				forms(t, s, k, p, d, d, i)
			}
			bare := copyKid(k)
			bare.Key = nil
			n := api.Node{Kind: 1, Rows: []api.Entry{{Row: l[2], Live: true}}, Kids: []api.Kid{bare, {}}}
			above, err := node.Put(s, n, d)
			if err != api.OK {
				t.Fatalf("error %d", err)
			}
			forms(t, s, above, l[0], d, d, i)
		}
	}
}

// P11.2 to P11.4: kids that nobody made, and pages that are no node's: ErrForm.
func TestNobodysTrees(t *testing.T) {
	s := page.New()
	sums := []api.Digest{s.Put(nil), s.Put([]byte{1}), s.Put([]byte{1, 1, 1}), s.Put(make([]byte, 1000)), {}, {1}, {255}}
	counts := []int{-1 << 62, -1, 0, 1, 2, 1 << 20, 1<<20 + 1, 1 << 62}
	for d := 1; d <= 8; d++ {
		p := make(api.Row, d)
		for _, sum := range sums {
			for _, live := range counts {
				for _, size := range counts {
					k := api.Kid{Sum: sum, Live: live, Size: size}
					if node.Empty(k) {
						continue
					}
					forms(t, s, k, p, d, k)
					k.Box = api.Box{Lo: p, Hi: p}
					forms(t, s, k, p, d, k)
				}
			}
		}
	}
}
