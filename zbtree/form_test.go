package zbtree_test

import (
	"math/rand"
	"slices"
	"testing"

	"indenture/api"
	"indenture/node"
	"indenture/page"
	"indenture/zbtree"
)

// lacks: is one of some nodes one of others?
func lacks(missing, needed []*tree) bool {
	return slices.ContainsFunc(missing, func(x *tree) bool { return slices.Contains(needed, x) })
}

// asked holds against all calls with a store in which nodes of a tree are missing: ErrForm, just where one of them is needed, and nothing is put then; else what is told of the whole tree.
func asked(t *testing.T, s *page.Store, x *tree, d int, rows []api.Row, missing []*tree, counts *tally) {
	t.Helper()
	k := x.kid()
	if got, err := zbtree.Rows(s, k, d); lacks(missing, x.all()) && (err != api.ErrForm || len(got) > 0) {
		t.Errorf("Rows: %d, error %d", got, err)
	}
	if got, err := zbtree.Height(s, k, d); lacks(missing, x.way(x.first())) && (err != api.ErrForm || got != 0) {
		t.Errorf("Height: %d, error %d", got, err)
	}
	for _, p := range rows {
		way, there := x.way(p), x.has(p)
		want := api.OK
		if lacks(missing, way) {
			want, there = api.ErrForm, false
			counts.count("has")
		}
		if ok, err := zbtree.Has(s, k, p, d); err != want || ok != there {
			t.Errorf("Has %d: %t, error %d, not %d", p, ok, err, want)
		}
		askedChange(t, s, x, d, p, missing, counts)
	}
}

// askedChange is asked of Insert and Delete: these need the way, and the neighbours of nodes that have too few items then.
func askedChange(t *testing.T, s *page.Store, x *tree, d int, p api.Row, missing []*tree, counts *tally) {
	t.Helper()
	there, lost := x.has(p), lacks(missing, x.way(p))
	insert, remove := api.OK, api.OK
	var more, less *tree
	switch {
	case lost:
		insert, remove = api.ErrForm, api.ErrForm
	case there:
		insert = api.ErrDup
		c := newTally()
		if less = x.deleted(p, c); lacks(missing, c.met) {
			remove = api.ErrForm
			counts.count("neighbour")
		}
	default:
		remove = api.ErrNone
		more = x.inserted(p, newTally())
	}
	s = again(s)
	pages := s.Len()
	k, err := zbtree.Delete(s, x.kid(), p, d)
	if remove != api.OK {
		refused(t, s, pages, k, err, remove, "Delete", p)
	} else if !node.Same(k, less.kid()) || err != api.OK {
		t.Errorf("Delete %d: %+v, error %d", p, k, err)
	}
	pages = s.Len()
	k, err = zbtree.Insert(s, x.kid(), p, d)
	if insert != api.OK {
		refused(t, s, pages, k, err, insert, "Insert", p)
	} else if !node.Same(k, more.kid()) || err != api.OK {
		t.Errorf("Insert %d: %+v, error %d", p, k, err)
	}
	counts.counts["insert"] += one(insert == api.OK)
	counts.counts["there"] += one(insert == api.ErrDup)
	counts.counts["delete"] += one(remove == api.OK)
	counts.counts["none"] += one(remove == api.ErrNone)
}

// again tells a store with the same pages.
func again(s *page.Store) *page.Store {
	c := page.New()
	for _, sum := range s.Sums() {
		b, _ := s.Get(sum)
		c.Put(b)
	}
	return c
}

// between tells a tree's rows, and points ahead of each of them, and behind the last one.
func between(x *tree) []api.Row {
	var l []api.Row
	for _, p := range x.lives() {
		q := slices.Clone(p)
		for i := range q {
			q[i] -= 5
		}
		l = append(l, q, p)
	}
	last := slices.Clone(l[len(l)-1])
	for i := range last {
		last[i] += 5
	}
	return append(l, last)
}

// P12.2 to P12.4: trees one of whose nodes, whichever, isn't in the store: ErrForm, where it is needed, ahead of all that would be put; behind ErrDup and ErrNone, for which it isn't.
func TestMissing(t *testing.T) {
	random := rand.New(rand.NewSource(1))
	counts := newTally()
	for _, d := range []int{1, 2, 3, 8} {
		for range 3 {
			for levels := 1; levels <= 3; levels++ {
				next := int64(0)
				x := shape(random, d, levels, &next)
				for _, y := range x.all() {
					asked(t, x.storeWithout(t, y), x, d, between(x), []*tree{y}, counts)
				}
			}
		}
	}
	counts.least(t, 20, "has", "insert", "there", "delete", "none", "neighbour")
}

// P12.3: of three levels, where both a Leaf and the Inner above it are taken together with a neighbour, each of these may be missing: nothing is put then.
func TestMissingNeighbours(t *testing.T) {
	two := func(at int64) *tree {
		return &tree{kids: []*tree{{rows: []api.Row{{at}, {at + 10}}}, {rows: []api.Row{{at + 20}, {at + 30}}}}}
	}
	x := &tree{kids: []*tree{two(0), two(100), two(200)}}
	counts := newTally()
	for _, y := range x.all() {
		asked(t, x.storeWithout(t, y), x, 1, between(x), []*tree{y}, counts)
	}
	// without a row the Leaf and the Inner need three nodes on the way and two neighbours: of each of 12 rows 2 of 10 nodes
	if counts.counts["neighbour"] != 24 {
		t.Errorf("%v", counts.counts)
	}
}

// P12.2 to P12.4: no node at all is in the store: ErrForm of each tree that isn't the empty one.
func TestMissingAll(t *testing.T) {
	random := rand.New(rand.NewSource(2))
	for d := 1; d <= 8; d++ {
		for levels := 1; levels <= 3; levels++ {
			next := int64(0)
			x := shape(random, d, levels, &next)
			asked(t, page.New(), x, d, between(x), x.all(), newTally())
		}
	}
}

// falsehoods tells kids that say something else than a kid does.
func falsehoods(k api.Kid) []api.Kid {
	var l []api.Kid
	add := func(turn func(k *api.Kid)) {
		other := copyKid(k)
		turn(&other)
		l = append(l, other)
	}
	add(func(k *api.Kid) { k.Sum[0] ^= 1 })
	add(func(k *api.Kid) { k.Sum[31] ^= 128 })
	add(func(k *api.Kid) { k.Sum = api.Digest{} })
	for _, by := range []int{-1, 1, 1 << 40, -1 << 40} {
		add(func(k *api.Kid) { k.Live += by })
		add(func(k *api.Kid) { k.Size += by })
		add(func(k *api.Kid) { k.Live, k.Size = k.Live+by, k.Size+by })
	}
	add(func(k *api.Kid) { k.Box = api.Box{} })
	add(func(k *api.Kid) { k.Box.Lo = nil })
	add(func(k *api.Kid) { k.Box.Hi = append(k.Box.Hi, 0) })
	add(func(k *api.Kid) { k.Box.Hi[0]++ })
	add(func(k *api.Kid) { k.Box.Lo[0]-- })
	add(func(k *api.Kid) { k.Key = nil })
	add(func(k *api.Kid) { k.Key[0]-- })
	add(func(k *api.Kid) { k.Key = append(k.Key, 3) })
	return l
}

// forms holds against all calls with a tree that can't be got as a whole, for a row on whose way the wrong node stands. Height needn't go there.
func forms(t *testing.T, s *page.Store, k api.Kid, p api.Row, d int, what ...any) {
	t.Helper()
	pages := s.Len()
	more, err := zbtree.Insert(s, k, p, d)
	refused(t, s, pages, more, err, api.ErrForm, "Insert", what)
	less, err := zbtree.Delete(s, k, p, d)
	refused(t, s, pages, less, err, api.ErrForm, "Delete", what)
	ok, err := zbtree.Has(s, k, p, d)
	if ok || err != api.ErrForm {
		t.Errorf("Has: %t, error %d: %v", ok, err, what)
	}
	rows, err := zbtree.Rows(s, k, d)
	if len(rows) > 0 || err != api.ErrForm {
		t.Errorf("Rows: %d, error %d: %v", rows, err, what)
	}
	if s.Len() != pages {
		t.Errorf("%d pages were put: %v", s.Len()-pages, what)
	}
}

// rootForms is forms of a root, of which Height is asked, too.
func rootForms(t *testing.T, s *page.Store, k api.Kid, p api.Row, d int, what ...any) {
	t.Helper()
	forms(t, s, k, p, d, what...)
	if height, err := zbtree.Height(s, k, d); height != 0 || err != api.ErrForm {
		t.Errorf("Height: %d, error %d: %v", height, err, what)
	}
}

// P12.2 to P12.4: a root that says something else than its node: ErrForm.
func TestFalseRoots(t *testing.T) {
	random := rand.New(rand.NewSource(3))
	for d := 1; d <= 8; d++ {
		for levels := 1; levels <= 3; levels++ {
			next := int64(0)
			x, s := shape(random, d, levels, &next), page.New()
			for i, k := range falsehoods(x.put(t, s)) {
				for _, p := range between(x) {
					rootForms(t, s, k, p, d, d, i)
				}
			}
		}
	}
}

// P12.2 to P12.4: a node further down that says something else than its Inner says of it: ErrForm, where the way goes there.
func TestFalseKids(t *testing.T) {
	for d := 1; d <= 8; d++ {
		s := page.New()
		x := laid(line(d, 0, 13)) // Leaves of 4, 3, 3 and 3 rows
		x.put(t, s)
		other, _ := zbtree.Build(s, line(d, 50, 3), d)
		for i, y := range x.kids {
			lies := falsehoods(y.kid())
			if i > 0 { // the first one's Key doesn't turn the way
				lies = slices.DeleteFunc(lies, func(k api.Kid) bool { return !slices.Equal(k.Key, y.rows[0]) })
			}
			other.Key = y.rows[0]
			for j, wrong := range append(lies, other) {
				n := x.node()
				n.Kids[i] = wrong
				k, err := node.Put(s, n, d)
				if err != api.OK {
					continue // no node says so
				}
				for _, p := range y.rows {
					forms(t, s, k, p, d, d, i, j)
				}
				right := x.kids[(i+1)%4].rows[1]
				if ok, err := zbtree.Has(s, k, right, d); !ok || err != api.OK {
					t.Errorf("Has: %t, error %d: %d, %d, %d", ok, err, d, i, j)
				}
			}
		}
	}
}

// P12.2 to P12.4: nodes of the other tree as a root: they are none of this one; ErrForm.
func TestOtherTreesNodes(t *testing.T) {
	for d := 1; d <= 8; d++ {
		s := page.New()
		l := line(d, 0, 3)
		var k api.Kid
		for _, p := range l {
			for _, live := range []bool{true, false} {
				var err api.Errno
				k, err = node.Put(s, api.Node{Kind: 1, Rows: []api.Entry{{Row: p, Live: live}}, Kids: []api.Kid{k, {}}}, d)
				if err != api.OK {
					t.Fatalf("error %d", err)
				}
				for _, p := range l {
					rootForms(t, s, k, p, d, d)
				}
				keyed := copyKid(k)
				keyed.Key = slices.Clone(p)
				above, err := node.Put(s, api.Node{Kind: 3, Kids: []api.Kid{keyed, keyed}}, d)
				if err != api.OK {
					t.Fatalf("error %d", err)
				}
				rootForms(t, s, above, p, d, d)
			}
		}
	}
}

// P12.2 to P12.4: kids that nobody made, and pages that are no node's: ErrForm.
func TestNobodysTrees(t *testing.T) {
	s := page.New()
	sums := []api.Digest{s.Put(nil), s.Put([]byte{2}), s.Put([]byte{2, 1, 1}), s.Put(make([]byte, 1000)), {}, {1}, {255}}
	counts := []int{-1 << 62, -1, 0, 1, 2, 1 << 20, 1<<20 + 1, 1 << 62}
	for d := 1; d <= 8; d++ {
		p := make(api.Row, d)
		for _, sum := range sums {
			for _, live := range counts {
				for _, size := range counts {
					k := api.Kid{Sum: sum, Live: live, Size: size}
					if node.Empty(k) {
						continue
					}
					rootForms(t, s, k, p, d, k)
					k.Box, k.Key = api.Box{Lo: p, Hi: p}, p
					rootForms(t, s, k, p, d, k)
				}
			}
		}
	}
}

// strange tells a tree of nodes that may be, but stand together in any way: Leaves of one row, at unlike depths, of rows in any order, some more than once; some nodes aren't put.
func strange(t *testing.T, random *rand.Rand, s *page.Store, levels int) api.Kid {
	t.Helper()
	n := api.Node{Kind: 2}
	for range 1 + random.Intn(4) {
		n.Rows = append(n.Rows, api.Entry{Row: api.Row{random.Int63n(12)}, Live: true})
	}
	if levels > 0 && random.Intn(4) > 0 {
		n = api.Node{Kind: 3}
		for range 2 + random.Intn(3) {
			n.Kids = append(n.Kids, strange(t, random, s, levels-1))
		}
	}
	put := node.Put
	if random.Intn(40) == 0 {
		put = func(_ *page.Store, n api.Node, d int) (api.Kid, api.Errno) { return node.Say(n, d) }
	}
	k, err := put(s, n, 1)
	if err != api.OK {
		t.Fatalf("error %d", err)
	}
	return k
}

// P12.2 to P12.4: whatever nodes stand together, each call ends, tells one of its errors, and then nothing else, and puts nothing.
func TestStrangeTrees(t *testing.T) {
	random := rand.New(rand.NewSource(4))
	got := map[api.Errno]int{}
	for range 3000 {
		s := page.New()
		k := strange(t, random, s, 3)
		for x := int64(-1); x <= 12; x++ {
			for _, change := range []func(*page.Store, api.Kid, api.Row, int) (api.Kid, api.Errno){zbtree.Insert, zbtree.Delete} {
				pages := s.Len()
				told, err := change(s, k, api.Row{x}, 1)
				got[err]++
				if err != api.OK {
					refused(t, s, pages, told, err, err, x)
				}
			}
			if ok, err := zbtree.Has(s, k, api.Row{x}, 1); ok && err != api.OK {
				t.Errorf("%d: error %d", x, err)
			}
		}
		rows, err := zbtree.Rows(s, k, 1)
		if len(rows) != k.Live*one(err == api.OK) {
			t.Errorf("%d, error %d", rows, err)
		}
		if height, err := zbtree.Height(s, k, 1); (height > 0) != (err == api.OK) {
			t.Errorf("%d, error %d", height, err)
		}
	}
	if len(got) != 4 || got[api.OK] < 1000 || got[api.ErrForm] < 1000 || got[api.ErrDup] < 1000 || got[api.ErrNone] < 1000 {
		t.Errorf("%v", got)
	}
}

// P12.3: a neighbour of the other kind is no node of such a tree: ErrForm, and nothing is put.
func TestStrangeNeighbours(t *testing.T) {
	for _, kids := range [][]*tree{
		{known([]int64{1, 2}), known([]int64{3, 4}, []int64{5, 6})},
		{known([]int64{-5, -4}, []int64{-3, -2}), known([]int64{1, 2})},
	} {
		s := page.New()
		k := (&tree{kids: kids}).put(t, s)
		pages := s.Len()
		less, err := zbtree.Delete(s, k, api.Row{2}, 1)
		refused(t, s, pages, less, err, api.ErrForm)
	}
}
