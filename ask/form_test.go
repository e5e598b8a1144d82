package ask_test

import (
	"math"
	"math/rand"
	"slices"
	"testing"

	"indenture/api"
	"indenture/ask"
	"indenture/node"
	"indenture/page"
)

// wanting are trees with stores, of points of d numbers: one of each kind, one whose root can't be got, the empty one, and a kid that nobody made.
func wanting(t *testing.T, d int) []*tree {
	t.Helper()
	var l []*tree
	for _, of := range kinds {
		x := built(t, of, d, points(rand.New(rand.NewSource(1)), d, 9, narrow))
		l = append(l, x, &tree{of, page.New(), x.kid, d, x.live}, &tree{of, x.store, api.Kid{Live: 1, Size: 1, Box: whole(d)}, d, nil})
	}
	return append(l, &tree{kinds[0], page.New(), api.Kid{}, d, nil})
}

// P14.3: ErrArg of queries that may not be, whatever the tree is.
func TestTreeWrongQueries(t *testing.T) {
	for d := 1; d <= 8; d++ {
		for i, x := range wanting(t, d) {
			for _, b := range wrongBoxes(d) {
				treeRefused(t, x.store, x.kid, api.Query{Box: b, Limit: -1}, d, api.ErrArg, i)
				treeRefused(t, x.store, x.kid, api.Query{Box: b, Count: true}, d, api.ErrArg, i)
			}
			for _, o := range wrongOrders(d) {
				treeRefused(t, x.store, x.kid, api.Query{Box: whole(d), Order: o, Limit: -1}, d, api.ErrArg, i)
				treeRefused(t, x.store, x.kid, api.Query{Box: whole(d), Order: o, Limit: 0}, d, api.ErrArg, i)
				treeRefused(t, x.store, x.kid, api.Query{Box: whole(d), Order: o, Count: true}, d, api.ErrArg, i)
			}
			for _, limit := range wrongLimits {
				treeRefused(t, x.store, x.kid, api.Query{Box: whole(d), Limit: limit}, d, api.ErrArg, i)
			}
			for _, limit := range append(slices.Clone(wrongLimits), -1, 1, 1000) {
				treeRefused(t, x.store, x.kid, api.Query{Box: whole(d), Limit: limit, Count: true}, d, api.ErrArg, i)
			}
		}
	}
}

// P14.3: ErrArg of dimensions that there aren't, or for which the query isn't, whatever the tree is.
func TestWrongDimensions(t *testing.T) {
	for d := 1; d <= 8; d++ {
		for i, x := range wanting(t, d) {
			for _, other := range dims {
				if other == d {
					continue
				}
				for _, q := range []api.Query{{Box: whole(d), Limit: -1}, {Box: whole(d), Limit: 0}, {Box: whole(d), Count: true}} {
					treeRefused(t, x.store, x.kid, q, other, api.ErrArg, i)
				}
				if other == 9 || other == 10 || other == 0 {
					b := api.Box{Lo: make(api.Row, other), Hi: make(api.Row, other)}
					treeRefused(t, x.store, x.kid, api.Query{Box: b, Limit: -1}, other, api.ErrArg, i)
					treeRefused(t, x.store, x.kid, api.Query{Box: b, Count: true}, other, api.ErrArg, i)
				}
			}
		}
	}
}

// P14.3: a tree whose root can't be got: ErrForm, where it is open to the query; else it isn't needed.
func TestRootMissing(t *testing.T) {
	random := rand.New(rand.NewSource(2))
	met := map[api.Errno]int{}
	for d := 1; d <= 8; d++ {
		for _, of := range kinds {
			for _, n := range []int{1, 4, 5, 20} {
				x := built(t, of, d, points(random, d, n, narrow))
				for _, s := range []*page.Store{page.New(), x.without(x.kid.Sum)} {
					y := &tree{of, s, x.kid, d, x.live}
					for _, q := range x.queries(random) {
						if err := y.is(t, q).err; (err == api.ErrForm) != ask.Open(q, x.kid) {
							t.Errorf("%+v: error %d", q, err)
						} else {
							met[err]++
						}
					}
				}
			}
		}
	}
	if met[api.OK] < 1000 || met[api.ErrForm] < 1000 {
		t.Errorf("%v", met)
	}
}

// without tells a store with a tree's pages, but one.
func (x *tree) without(sum api.Digest) *page.Store {
	s := page.New()
	for _, other := range x.store.Sums() {
		if b, _ := x.store.Get(other); other != sum {
			s.Put(b)
		}
	}
	return s
}

// P14.3: trees one of whose nodes, whichever, isn't in the store: ErrForm, where it is needed; else what is told of the whole tree.
func TestMissing(t *testing.T) {
	random := rand.New(rand.NewSource(3))
	met := map[api.Errno]int{}
	for _, d := range []int{1, 2, 3, 8} {
		for _, of := range kinds {
			for _, n := range []int{3, 7, 20} {
				x := grown(t, random, of, d, points(random, d, n, narrow))
				queries := x.queries(random)
				for _, sum := range walk(x.store, x.kid, api.Query{Box: whole(d), Limit: -1}, d).got {
					y := &tree{of, x.without(sum), x.kid, d, x.live}
					for _, q := range queries {
						whole := walk(x.store, x.kid, q, d)
						err := y.is(t, q).err
						if (err != api.OK) != slices.Contains(whole.got, sum) {
							t.Fatalf("%+v: error %d", q, err)
						}
						met[err]++
					}
				}
			}
		}
	}
	if len(met) != 2 || met[api.OK] < 5000 || met[api.ErrForm] < 5000 {
		t.Errorf("%v", met)
	}
}

// P14.3: known trees some of whose nodes aren't there: by the Limit, by the box, and by Count.
func TestKnownMissing(t *testing.T) {
	s := page.New()
	at := func(x int64) api.Kid { return put(t, s, 1, fork(api.Row{x}, true, api.Kid{}, api.Kid{})) }
	away := func(x int64) api.Kid {
		k, err := node.Say(fork(api.Row{x}, true, api.Kid{}, api.Kid{}), 1)
		if err != api.OK {
			t.Fatalf("error %d", err)
		}
		return k
	}
	x := &tree{kinds[0], s, put(t, s, 1, fork(api.Row{4}, true, put(t, s, 1, fork(api.Row{2}, true, at(1), away(3))), put(t, s, 1, fork(api.Row{6}, true, away(5), at(7))))), 1, nil}
	falling := api.Order{Kind: api.Fall}
	x.knows(t, []known{
		{by(1, 7, api.Order{}, 2), api.Answer{Rows: line(1, 2)}, 3},
		{by(1, 7, falling, 2), api.Answer{Rows: []api.Row{{7}, {6}}}, 3},
		{by(1, 2, api.Order{}, -1), api.Answer{Rows: line(1, 2)}, 3},
		{by(6, 9, api.Order{}, -1), api.Answer{Rows: line(6, 7)}, 3},
		{counting(1, 7), api.Answer{Count: 7}, 0},
		{counting(2, 6), api.Answer{Count: 5}, 3},
		{counting(3, 7), api.Answer{Count: 5}, 2},
	})
	for _, q := range []api.Query{by(1, 7, api.Order{}, 3), by(1, 7, api.Order{}, -1), by(1, 7, falling, 3), by(3, 3, api.Order{}, 1), by(5, 5, api.Order{}, -1), by(2, 5, api.Order{}, -1)} {
		treeRefused(t, s, x.kid, q, 1, api.ErrForm)
		x.is(t, q)
	}
}

// falsehoods tells kids that say something else than a kid.
func falsehoods(k api.Kid) []api.Kid {
	var l []api.Kid
	for _, turn := range []func(k *api.Kid){
		func(k *api.Kid) { k.Sum[31] ^= 1 },
		func(k *api.Kid) { k.Sum = api.Digest{} },
		func(k *api.Kid) { k.Live-- },
		func(k *api.Kid) { k.Size++ },
		func(k *api.Kid) { k.Size, k.Live = k.Size+1, k.Live+1 },
		func(k *api.Kid) { k.Size, k.Live = 0, 0 },
		func(k *api.Kid) { k.Live = -1 },
		func(k *api.Kid) { k.Live, k.Size = math.MaxInt, math.MinInt },
		func(k *api.Kid) { k.Box.Lo[0]-- },
		func(k *api.Kid) { k.Box.Hi[len(k.Box.Hi)-1]++ },
		func(k *api.Kid) { k.Box.Lo[0] = k.Box.Hi[0] + 1 },
		func(k *api.Kid) { k.Box = api.Box{} },
		func(k *api.Kid) { k.Key = append(slices.Clone(k.Key), 1) },
		func(k *api.Kid) { k.Key = all(len(k.Box.Lo), 77) },
	} {
		other := copyKid(k)
		turn(&other)
		l = append(l, other)
	}
	return l
}

func copyKid(k api.Kid) api.Kid {
	k.Box = api.Box{Lo: slices.Clone(k.Box.Lo), Hi: slices.Clone(k.Box.Hi)}
	k.Key = slices.Clone(k.Key)
	return k
}

// P14.3: a root that says something else than its node: ErrForm, where it is open to the query.
func TestFalseRoots(t *testing.T) {
	random := rand.New(rand.NewSource(4))
	for d := 1; d <= 8; d++ {
		for _, of := range kinds {
			for _, n := range []int{2, 9} {
				x := built(t, of, d, points(random, d, n, narrow))
				for _, k := range falsehoods(x.kid) {
					y := &tree{of, x.store, k, d, x.live}
					for _, q := range x.queries(random) {
						if err := y.is(t, q).err; (err == api.ErrForm) != isOpen(q, k) {
							t.Errorf("%+v of %+v: error %d", q, k, err)
						}
					}
				}
			}
		}
	}
}

// P14.3: a node further down that says something else than what is said of it: ErrForm, where it is needed, and only there.
func TestFalseKids(t *testing.T) {
	random := rand.New(rand.NewSource(5))
	met := map[api.Errno]int{}
	for d := 1; d <= 8; d++ {
		s := page.New()
		one := func(x int64) api.Kid { return put(t, s, d, fork(all(d, x), true, api.Kid{}, api.Kid{})) }
		two := func(x int64) api.Kid { return put(t, s, d, leaf(all(d, x), all(d, x+1))) }
		roots := []api.Node{}
		for _, k := range falsehoods(one(50)) {
			roots = append(roots, fork(all(d, 10), true, one(0), k), fork(all(d, 10), true, k, one(100)))
		}
		for _, k := range falsehoods(two(50)) {
			roots = append(roots, api.Node{Kind: api.Inner, Kids: []api.Kid{two(0), k, two(100)}})
		}
		for _, n := range roots {
			root, err := node.Put(s, n, d)
			if err != api.OK {
				continue // no node says so
			}
			x := &tree{kinds[0], s, root, d, []api.Row{all(d, 10), all(d, 50)}}
			for _, q := range append(x.queries(random), api.Query{Box: whole(d), Limit: 1}, api.Query{Box: whole(d), Limit: -1}) {
				met[x.is(t, q).err]++
			}
		}
	}
	if len(met) != 2 || met[api.OK] < 1000 || met[api.ErrForm] < 1000 {
		t.Errorf("%v", met)
	}
}

// P14.3: a tree of points of another dimension isn't open to the query, so nothing is got.
func TestOtherDimensions(t *testing.T) {
	random := rand.New(rand.NewSource(6))
	for d := 1; d <= 8; d++ {
		for _, of := range kinds {
			x := built(t, of, d, points(random, d, 9, narrow))
			for other := 1; other <= 8; other++ {
				if other == d {
					continue
				}
				y := &tree{of, x.store, x.kid, other, nil}
				y.knows(t, []known{{api.Query{Box: whole(other), Limit: -1}, api.Answer{}, 0}, {api.Query{Box: whole(other), Limit: 3}, api.Answer{}, 0}, {api.Query{Box: whole(other), Count: true}, api.Answer{}, 0}})
				y.kid.Box = whole(other)
				treeRefused(t, y.store, y.kid, api.Query{Box: whole(other), Limit: -1}, other, api.ErrForm)
			}
		}
	}
}

// P14.3: kids that nobody made, and pages that are no node's: ErrForm, where they are open to the query.
func TestNobodysTrees(t *testing.T) {
	s := page.New()
	sums := []api.Digest{s.Put(nil), s.Put([]byte{2}), s.Put([]byte{1, 1, 1}), s.Put(make([]byte, 1000)), {}, {1}, {255}}
	counts := []int{math.MinInt, -1, 0, 1, 1 << 20, 1<<20 + 1, math.MaxInt}
	for _, d := range []int{1, 3} {
		p := make(api.Row, d)
		for _, sum := range sums {
			for _, live := range counts {
				for _, size := range counts {
					for _, b := range []api.Box{{}, span(p, p), {Lo: all(d, 1), Hi: p}, whole(d)} {
						x := &tree{kinds[0], s, api.Kid{Sum: sum, Live: live, Size: size, Box: b, Key: p}, d, nil}
						for _, q := range []api.Query{{Box: whole(d), Limit: -1}, {Box: span(p, p), Limit: 1}, {Box: span(p, p), Limit: 0}, {Box: span(p, p), Count: true}} {
							if w := x.is(t, q); len(w.got) > 0 || (w.err == api.OK) == isOpen(q, x.kid) {
								t.Errorf("%+v, %+v: %+v", x.kid, q, w)
							}
						}
					}
				}
			}
		}
	}
}

// strange tells a tree of nodes that may be, but stand together in any way: of rows at any place, some of them more than once; some nodes aren't put.
func strange(t *testing.T, random *rand.Rand, s *page.Store, forks bool, levels int) api.Kid {
	t.Helper()
	below := func() api.Kid { return strange(t, random, s, forks, levels-1) }
	n := leaf(points(random, 2, 1+random.Intn(4), narrow)...)
	switch {
	case forks && levels > 0:
		if n = fork(some(random, 2, narrow), random.Intn(3) > 0, api.Kid{}, api.Kid{}); random.Intn(4) > 0 {
			n.Kids[0] = below()
		}
		if random.Intn(4) > 0 {
			n.Kids[1] = below()
		}
	case forks:
		return api.Kid{}
	case levels > 0 && random.Intn(4) > 0:
		n = api.Node{Kind: api.Inner}
		for range 2 + random.Intn(3) {
			n.Kids = append(n.Kids, below())
		}
	}
	if len(n.Kids) > 1 && random.Intn(5) == 0 {
		n.Kids[0] = n.Kids[1]
	}
	if random.Intn(60) == 0 {
		k, err := node.Say(n, 2)
		if err != api.OK {
			t.Fatalf("error %d", err)
		}
		return k
	}
	return put(t, s, 2, n)
}

// P14.3: whatever nodes stand together, and however often one stands there, Tree is by the chapter's words; nothing is put.
func TestStrangeTrees(t *testing.T) {
	random := rand.New(rand.NewSource(7))
	met := map[api.Errno]int{}
	for i := range 500 {
		s := page.New()
		x := &tree{kinds[i%2], s, strange(t, random, s, i%2 == 0, 3+i%2), 2, nil}
		was := s.Sums()
		for _, q := range x.queries(random) {
			q.Limit = min(q.Limit, random.Intn(9))
			met[x.is(t, q).err]++
		}
		nothingPut(t, s, was)
	}
	if len(met) != 2 || met[api.OK] < 3000 || met[api.ErrForm] < 1000 {
		t.Errorf("%v", met)
	}
}
