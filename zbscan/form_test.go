package zbscan_test

import (
	"math/big"
	"math/rand"
	"slices"
	"testing"

	"indenture/api"
	"indenture/node"
	"indenture/page"
	"indenture/zbscan"
	"indenture/zrange"
)

// wanting are stores with kids, for points of d numbers: of a tree, of one whose root can't be got, the empty tree, and a kid that nobody made.
func wanting(t *testing.T, d int) []*tree {
	t.Helper()
	x := built(t, d, points(rand.New(rand.NewSource(1)), d, 9, narrow))
	return []*tree{x, {x.list, page.New(), x.kid}, {listed(d, nil), page.New(), api.Kid{}}, {x.list, x.store, api.Kid{Size: 1}}}
}

// P13.1: ErrArg of a code that hasn't 8 d bytes, none too, whatever the tree is.
func TestWrongCodes(t *testing.T) {
	for d := 1; d <= 8; d++ {
		for i, x := range wanting(t, d) {
			for n := range 200 {
				if n != 8*d {
					firstRefused(t, x.store, x.kid, make([]byte, n), d, api.ErrArg, i, d, n)
				}
			}
			firstRefused(t, x.store, x.kid, nil, d, api.ErrArg, i, d)
			firstRefused(t, x.store, x.kid, make([]byte, 8*d+1<<16), d, api.ErrArg, i, d)
		}
	}
}

// P13.1 to P13.3: ErrArg of dimensions that there aren't, whatever code or box is handed in.
func TestWrongDimensions(t *testing.T) {
	for d := 1; d <= 8; d++ {
		for i, x := range wanting(t, d) {
			for _, other := range dims {
				if other >= 1 && other <= 8 {
					continue
				}
				for _, n := range []int{0, 1, 8, 64, 72, 80} {
					firstRefused(t, x.store, x.kid, make([]byte, n), other, api.ErrArg, i, other, n)
				}
				if other == 9 || other == 10 || other == 0 {
					scanRefused(t, x.store, x.kid, api.Box{Lo: make(api.Row, other), Hi: make(api.Row, other)}, other, api.ErrArg, i, other)
				}
				for _, b := range []api.Box{{}, whole(d), span(all(d, 0), all(d, 0))} {
					scanRefused(t, x.store, x.kid, b, other, api.ErrArg, i, other, b)
				}
			}
		}
	}
}

// P13.2, P13.3: ErrArg of boxes that aren't right.
func TestWrongBoxes(t *testing.T) {
	for d := 1; d <= 8; d++ {
		boxes := []api.Box{{}, {Lo: api.Row{}, Hi: api.Row{}}, {Lo: all(d, 0)}, {Hi: all(d, 0)}, {Lo: all(d, 1), Hi: all(d, 0)}, {Lo: all(d, greatest), Hi: all(d, least)}}
		for _, n := range []int{d - 1, d + 1, d + 8, 300} {
			boxes = append(boxes, api.Box{Lo: all(n, 0), Hi: all(n, 0)}, api.Box{Lo: all(n, 0), Hi: all(d, 0)}, api.Box{Lo: all(d, 0), Hi: all(n, 0)})
		}
		for side := range d {
			b := api.Box{Lo: all(d, 0), Hi: all(d, 5)}
			b.Hi[side] = -1
			boxes = append(boxes, b)
		}
		for i, x := range wanting(t, d) {
			for _, b := range boxes {
				scanRefused(t, x.store, x.kid, b, d, api.ErrArg, i, d, b)
				piecesRefused(t, x.store, x.kid, b, d, -1, api.ErrArg, i, d, b)
			}
		}
	}
}

// P13.1 to P13.3: a tree of points of another dimension: its nodes can't be got as those of this one; ErrForm, but of the empty tree.
func TestOtherDimensions(t *testing.T) {
	random := rand.New(rand.NewSource(2))
	for d := 1; d <= 8; d++ {
		for _, n := range []int{1, 4, 9, 40} {
			x := built(t, d, points(random, d, n, narrow))
			for other := 1; other <= 8; other++ {
				if other == d {
					continue
				}
				for _, c := range []*big.Int{new(big.Int), number(all(other, 0)), end(other)} {
					firstRefused(t, x.store, x.kid, code(c, other), other, api.ErrForm, d, other)
				}
				for _, b := range []api.Box{whole(other), span(all(other, 0), all(other, 0)), span(all(other, greatest), all(other, greatest))} {
					scanRefused(t, x.store, x.kid, b, other, api.ErrForm, d, other)
				}
			}
		}
	}
}

// refusesAll holds against a kid that it is ErrForm, whatever code or box is asked.
func refusesAll(t *testing.T, s *page.Store, k api.Kid, d int, codes []*big.Int, what ...any) {
	t.Helper()
	for _, c := range codes {
		firstRefused(t, s, k, code(c, d), d, api.ErrForm, append(what, c)...)
		p := point(c, d)
		if rows, looked, err := zbscan.Scan(s, k, span(p, p), d); len(rows) > 0 || looked != 0 || err != api.ErrForm {
			t.Errorf("Scan of %d: %d, %d looked at, error %d: %v", p, rows, looked, err, what)
		}
	}
	for _, b := range []api.Box{whole(d), span(all(d, least), all(d, least)), span(all(d, greatest), all(d, greatest)), span(all(d, -1), all(d, 1))} {
		scanRefused(t, s, k, b, d, api.ErrForm, what...)
	}
}

// P13.1 to P13.3: the root of a tree that isn't empty is got whatever the code, also where a kid's words alone would tell that there is no such row.
func TestRootMissing(t *testing.T) {
	random := rand.New(rand.NewSource(3))
	for d := 1; d <= 8; d++ {
		for _, n := range []int{1, 3, 4, 5, 20} {
			x := built(t, d, points(random, d, n, narrow))
			refusesAll(t, page.New(), x.kid, d, x.around(random), d, n)
			refusesAll(t, x.without(x.kid.Sum), x.kid, d, x.around(random), d, n)
		}
	}
}

// without tells a store with a tree's pages, but one.
func (x *tree) without(sum api.Digest) *page.Store {
	s := page.New()
	for _, other := range x.store.Sums() {
		if b, _ := x.store.Get(other); other != sum {
			s.Put(b)
		}
	}
	return s
}

// place is a node, and from which row of its tree on to which one those below it are.
type place struct {
	sum      api.Digest
	from, to int
}

// places tells all nodes of a tree.
func (x *tree) places(t *testing.T) []place {
	t.Helper()
	var l []place
	var below func(k api.Kid, from int)
	below = func(k api.Kid, from int) {
		n, err := node.Get(x.store, k, x.d)
		if err != api.OK {
			t.Fatalf("error %d", err)
		}
		l = append(l, place{k.Sum, from, from + k.Size})
		for _, y := range n.Kids {
			below(y, from)
			from += y.Size
		}
	}
	below(x.kid, 0)
	return l
}

// leftOut: are all rows of a place ahead of a row that isn't behind a code?
func (x *tree) leftOut(p place, c *big.Int) bool {
	return p.to < len(x.rows) && x.codes[p.to].Cmp(c) <= 0
}

// first: does First at a code need a node? That which isn't left out, as long as there is no row from the code on ahead of it.
func (x *tree) first(p place, c *big.Int) bool {
	return p.sum == x.kid.Sum || !x.leftOut(p, c) && (p.from == 0 || x.codes[p.from-1].Cmp(c) < 0)
}

// last: does Last at a code need a node? That whose first row isn't behind the code, and which isn't left out.
func (x *tree) last(p place, c *big.Int) bool {
	return p.sum == x.kid.Sum || !x.leftOut(p, c) && x.codes[p.from].Cmp(c) <= 0
}

// scans: does a scan need a node?
func (x *tree) scans(p place, s scanned) bool {
	return slices.ContainsFunc(s.from, func(c *big.Int) bool { return x.first(p, c) })
}

// P13.1 to P13.3: trees one of whose nodes, whichever, isn't in the store: ErrForm, where it is needed; else what is told of the whole tree.
func TestMissing(t *testing.T) {
	random := rand.New(rand.NewSource(4))
	met := map[string]int{}
	for _, d := range []int{1, 2, 3, 8} {
		for _, n := range []int{3, 6, 14, 30} {
			x := grown(t, random, d, points(random, d, n, narrow))
			boxes, codes := x.boxes(random), x.around(random)
			for _, p := range x.places(t) {
				y := &tree{x.list, x.without(p.sum), x.kid}
				for _, c := range codes {
					met["first"] += y.firstLacks(t, c, x.first(p, c), x.last(p, c))
				}
				for i, b := range boxes {
					met["scan"] += y.scanLacks(t, b, x.scans(p, x.scan(b)))
					if i%4 == 0 {
						met["pieces"] += y.piecesLack(t, p, b, i%11)
					}
				}
				met["nodes"]++
			}
		}
	}
	if met["nodes"] < 100 || met["first"] < 1000 || met["scan"] < 500 || met["pieces"] < 100 {
		t.Errorf("%v", met)
	}
}

// firstLacks holds First and Last at a code against a store in which a node is missing, and tells how many of both didn't need it.
func (x *tree) firstLacks(t *testing.T, c *big.Int, first, last bool) int {
	t.Helper()
	switch r, ok, err := zbscan.First(x.store, x.kid, code(c, x.d), x.d); {
	case first && (len(r) > 0 || ok || err != api.ErrForm):
		t.Fatalf("First from %d: %d, %t, error %d", point(c, x.d), r, ok, err)
	case !first && (ok != (x.from(c) < len(x.rows)) || ok && !slices.Equal(r, x.rows[x.from(c)]) || err != api.OK):
		t.Fatalf("First from %d: %d, %t, error %d", point(c, x.d), r, ok, err)
	}
	switch r, ok, err := zbscan.Last(x.store, x.kid, code(c, x.d), x.d); {
	case last && (len(r) > 0 || ok || err != api.ErrForm):
		t.Fatalf("Last up to %d: %d, %t, error %d", point(c, x.d), r, ok, err)
	case !last && (ok != (x.upTo(c) > 0) || ok && !slices.Equal(r, x.rows[x.upTo(c)-1]) || err != api.OK):
		t.Fatalf("Last up to %d: %d, %t, error %d", point(c, x.d), r, ok, err)
	}
	return count(!first) + count(!last)
}

// scanLacks holds Scan by a box against a store in which a node is missing, and tells by 1 that it wasn't needed.
func (x *tree) scanLacks(t *testing.T, b api.Box, needed bool) int {
	t.Helper()
	if !needed {
		x.scanIs(t, b)
		return 1
	}
	if rows, looked, err := zbscan.Scan(x.store, x.kid, b, x.d); len(rows) > 0 || looked != 0 || err != api.ErrForm {
		t.Fatalf("Scan by %d: %d, %d looked at, error %d", b, rows, looked, err)
	}
	return 0
}

// piecesLack holds Pieces by a box against a store in which a node is missing, and tells by 1 that it wasn't needed.
func (x *tree) piecesLack(t *testing.T, p place, b api.Box, depth int) int {
	t.Helper()
	ranges, err := zrange.Ranges(b, depth)
	if err != api.OK {
		t.Fatalf("error %d", err)
	}
	if !slices.ContainsFunc(ranges, func(r api.Box) bool { return x.scans(p, x.scan(r)) }) {
		x.piecesAre(t, b, depth)
		return 1
	}
	piecesRefused(t, x.store, x.kid, b, x.d, depth, api.ErrForm, b)
	return 0
}

// falsehoods tells kids that say something else than a kid.
func falsehoods(k api.Kid) []api.Kid {
	var l []api.Kid
	for _, turn := range []func(k *api.Kid){
		func(k *api.Kid) { k.Sum[31] ^= 1 },
		func(k *api.Kid) { k.Sum = api.Digest{} },
		func(k *api.Kid) { k.Live-- },
		func(k *api.Kid) { k.Size++ },
		func(k *api.Kid) { k.Size, k.Live = k.Size+1, k.Live+1 },
		func(k *api.Kid) { k.Size, k.Live = 0, 0 },
		func(k *api.Kid) { k.Box.Lo[0]-- },
		func(k *api.Kid) { k.Box.Hi[len(k.Box.Hi)-1]++ },
		func(k *api.Kid) { k.Box = api.Box{} },
		func(k *api.Kid) { k.Key[len(k.Key)-1]-- },
		func(k *api.Kid) { k.Key[0]++ },
		func(k *api.Kid) { k.Key = nil },
	} {
		other := copyKid(k)
		turn(&other)
		l = append(l, other)
	}
	return l
}

func copyKid(k api.Kid) api.Kid {
	k.Box = api.Box{Lo: slices.Clone(k.Box.Lo), Hi: slices.Clone(k.Box.Hi)}
	k.Key = slices.Clone(k.Key)
	return k
}

// P13.1 to P13.3: a root that says something else than its node: ErrForm.
func TestFalseRoots(t *testing.T) {
	random := rand.New(rand.NewSource(5))
	for d := 1; d <= 8; d++ {
		for _, n := range []int{2, 9} {
			x := built(t, d, points(random, d, n, narrow))
			for i, k := range falsehoods(x.kid) {
				refusesAll(t, x.store, k, d, x.around(random), d, n, i)
			}
		}
	}
}

// P13.1 to P13.3: a node further down that says something else than its Inner says of it: ErrForm, where it is needed, and only there.
func TestFalseKids(t *testing.T) {
	for d := 1; d <= 8; d++ {
		s := page.New()
		line := func(from int64) api.Kid {
			return put(t, s, d, leaf(all(d, from), all(d, from+10)))
		}
		for i, k := range falsehoods(line(50)) {
			inner := api.Node{Kind: api.Inner, Kids: []api.Kid{line(0), k, line(100)}}
			root, err := node.Put(s, inner, d)
			if err != api.OK || !slices.Equal(k.Key, all(d, 50)) {
				continue // no node says so, or another Key turns what is needed
			}
			for _, x := range []struct {
				at          int64
				first, last api.Errno
			}{{-1, api.OK, api.OK}, {0, api.OK, api.OK}, {10, api.OK, api.OK}, {11, api.ErrForm, api.OK}, {49, api.ErrForm, api.OK}, {50, api.ErrForm, api.ErrForm}, {60, api.ErrForm, api.ErrForm}, {99, api.ErrForm, api.ErrForm}, {100, api.OK, api.OK}, {999, api.OK, api.OK}} {
				c := code(number(all(d, x.at)), d)
				if r, ok, err := zbscan.First(s, root, c, d); err != x.first || err != api.OK && (ok || len(r) > 0) {
					t.Errorf("First from %d: %d, %t, error %d: %d", x.at, r, ok, err, i)
				}
				if r, ok, err := zbscan.Last(s, root, c, d); err != x.last || err != api.OK && (ok || len(r) > 0) {
					t.Errorf("Last up to %d: %d, %t, error %d: %d", x.at, r, ok, err, i)
				}
			}
			scanRefused(t, s, root, whole(d), d, api.ErrForm, i)
			scanRefused(t, s, root, span(all(d, 55), all(d, 55)), d, api.ErrForm, i)
			if rows, looked, err := zbscan.Scan(s, root, span(all(d, 100), all(d, 110)), d); len(rows) != 2 || looked != 2 || err != api.OK {
				t.Errorf("%d, %d looked at, error %d: %d", rows, looked, err, i)
			}
		}
	}
}

// P13.1 to P13.3: nodes of the other tree are none of this one: ErrForm.
func TestOtherTreesNodes(t *testing.T) {
	codes := func(d int) []*big.Int { return []*big.Int{new(big.Int), number(all(d, 3)), end(d)} }
	for d := 1; d <= 8; d++ {
		s := page.New()
		var k api.Kid
		for i := range int64(3) {
			for _, live := range []bool{true, false} {
				k = put(t, s, d, api.Node{Kind: api.Fork, Rows: []api.Entry{{Row: all(d, i), Live: live}}, Kids: []api.Kid{k, {}}})
				refusesAll(t, s, k, d, codes(d), d, i, live)
				keyed := copyKid(k)
				keyed.Key = all(d, i)
				above := put(t, s, d, api.Node{Kind: api.Inner, Kids: []api.Kid{keyed, keyed}})
				scanRefused(t, s, above, whole(d), d, api.ErrForm, d, i, live)
				firstRefused(t, s, above, code(number(all(d, i)), d), d, api.ErrForm, d, i, live)
			}
		}
	}
}

// P13.1 to P13.3: kids that nobody made, and pages that are no node's: ErrForm.
func TestNobodysTrees(t *testing.T) {
	s := page.New()
	sums := []api.Digest{s.Put(nil), s.Put([]byte{2}), s.Put([]byte{2, 1, 1}), s.Put(make([]byte, 1000)), {}, {1}, {255}}
	counts := []int{-1 << 62, -1, 0, 1, 1 << 20, 1<<20 + 1, 1 << 62}
	for _, d := range []int{1, 3} {
		p := make(api.Row, d)
		codes := []*big.Int{new(big.Int), number(p)}
		for _, sum := range sums {
			for _, live := range counts {
				for _, size := range counts {
					k := api.Kid{Sum: sum, Live: live, Size: size}
					if node.Empty(k) {
						continue
					}
					refusesAll(t, s, k, d, codes, k)
					k.Box, k.Key = api.Box{Lo: p, Hi: p}, p
					refusesAll(t, s, k, d, codes, k)
				}
			}
		}
	}
}

// strange tells a tree of nodes that may be, but stand together in any way: at unlike depths, of rows in any order, some more than once; some nodes aren't put.
func strange(t *testing.T, random *rand.Rand, s *page.Store, levels int) api.Kid {
	t.Helper()
	n := leaf(points(random, 2, 1+random.Intn(4), narrow)...)
	if levels > 0 && random.Intn(4) > 0 {
		n = api.Node{Kind: api.Inner}
		for range 2 + random.Intn(3) {
			n.Kids = append(n.Kids, strange(t, random, s, levels-1))
		}
		if random.Intn(4) == 0 {
			n.Kids[0] = n.Kids[1]
		}
	}
	if random.Intn(40) == 0 {
		k, err := node.Say(n, 2)
		if err != api.OK {
			t.Fatalf("error %d", err)
		}
		return k
	}
	return put(t, s, 2, n)
}

// P13.1 to P13.3: whatever nodes stand together, each call ends, tells none but its errors, and then nothing else; what it tells is where it was asked for, and by codes; nothing is put.
func TestStrangeTrees(t *testing.T) {
	random := rand.New(rand.NewSource(6))
	met := map[api.Errno]int{}
	for range 1500 {
		s := page.New()
		k := strange(t, random, s, 3)
		was := s.Sums()
		for range 5 {
			p, q := some(random, 2, narrow), some(random, 2, narrow)
			c := number(p)
			r, ok, err := zbscan.First(s, k, code(c, 2), 2)
			if met[err]++; ok && number(r).Cmp(c) < 0 || ok != (len(r) > 0) || ok && err != api.OK {
				t.Fatalf("First from %d: %d, %t, error %d", p, r, ok, err)
			}
			r, ok, err = zbscan.Last(s, k, code(c, 2), 2)
			if met[err]++; ok && number(r).Cmp(c) > 0 || ok != (len(r) > 0) || ok && err != api.OK {
				t.Fatalf("Last up to %d: %d, %t, error %d", p, r, ok, err)
			}
			rows, looked, err := zbscan.Scan(s, k, span(p, q), 2)
			if met[err]++; !inOrder(rows) || looked < len(rows) || err != api.OK && looked > 0 {
				t.Fatalf("Scan by %d: %d, %d looked at, error %d", span(p, q), rows, looked, err)
			}
			pieces, err := zbscan.Pieces(s, k, span(p, q), 2, random.Intn(11))
			if met[err]++; !inOrder(pieces) || err != api.OK && len(pieces) > 0 {
				t.Fatalf("Pieces by %d: %d, error %d", span(p, q), pieces, err)
			}
			for _, r := range append(rows, pieces...) {
				if !has(span(p, q), r) {
					t.Fatalf("%d isn't in %d", r, span(p, q))
				}
			}
		}
		nothingPut(t, s, was)
	}
	if len(met) != 2 || met[api.OK] < 5000 || met[api.ErrForm] < 2000 {
		t.Errorf("%v", met)
	}
}
