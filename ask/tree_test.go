package ask_test

import (
	"math/rand"
	"slices"
	"testing"

	"indenture/api"
	"indenture/ask"
	"indenture/page"
)

// P14.3: trees of both kinds by all kinds of queries: the answer, and how many nodes were got.
func TestTrees(t *testing.T) {
	random := rand.New(rand.NewSource(1))
	met := map[string]int{}
	for d := 1; d <= 8; d++ {
		for _, x := range trees(t, random, d) {
			was, nodes := x.store.Sums(), x.nodes(t)
			for _, q := range x.queries(random) {
				w := x.is(t, q)
				meets, some := len(w.got) > 0 || w.closed > 0, len(w.rows) > 0
				for name, holds := range map[string]bool{
					"nothing":         !meets,
					"some nodes":      len(w.got) > 0 && len(w.got) < nodes,
					"all nodes":       nodes > 1 && len(w.got) == nodes,
					"no rows":         meets && !some && !q.Count,
					"all counted":     q.Count && len(w.got) == 0 && w.closed > 0,
					"some counted":    q.Count && len(w.got) > 0 && w.closed > 0,
					"rows cut":        q.Limit > 0 && len(w.rows) > q.Limit,
					"nodes cut":       q.Limit > 0 && len(w.got) < len(walk(x.store, x.kid, api.Query{Box: q.Box, Order: q.Order, Limit: -1}, d).got),
					"greatest limits": q.Limit == 1000 && some,
				} {
					if holds {
						met[name]++
					}
				}
			}
			nothingPut(t, x.store, was)
		}
	}
	for name, n := range met {
		if n < 500 {
			t.Errorf("%s: %d", name, n)
		}
	}
	if len(met) != 9 {
		t.Errorf("%v", met)
	}
}

// P14.3: each order, and each Limit from -1 to more than there are rows, by a box of all and by one of some.
func TestEachLimit(t *testing.T) {
	random := rand.New(rand.NewSource(2))
	for _, d := range []int{1, 2, 3, 8} {
		for _, of := range kinds {
			for _, rows := range [][]api.Row{numbered(random, d, 14, narrow), points(random, d, 23, narrow)} {
				x := grown(t, random, of, d, rows)
				for _, o := range orders(random, d) {
					for limit := -1; limit < len(rows)+3; limit++ {
						x.is(t, api.Query{Box: whole(d), Order: o, Limit: limit})
						x.is(t, api.Query{Box: span(all(d, -30), all(d, 1)), Order: o, Limit: limit})
					}
				}
			}
		}
	}
}

// line tells the rows of one number from one number to another one.
func line(from, to int64) []api.Row {
	var l []api.Row
	for x := from; x <= to; x++ {
		l = append(l, api.Row{x})
	}
	return l
}

// known is a tree's answer to a query, and how many nodes are got for it.
type known struct {
	q    api.Query
	want api.Answer
	got  int
}

// by tells a query of the rows of one number from one to another.
func by(from, to int64, o api.Order, limit int) api.Query {
	return api.Query{Box: span(api.Row{from}, api.Row{to}), Order: o, Limit: limit}
}

// counting tells a query that counts them.
func counting(from, to int64) api.Query {
	return api.Query{Box: span(api.Row{from}, api.Row{to}), Count: true}
}

// knows holds a tree's answers.
func (x *tree) knows(t *testing.T, l []known) {
	t.Helper()
	for _, k := range l {
		if a, got, err := ask.Tree(x.store, x.kid, k.q, x.d); !same(a, k.want) || got != k.got || err != api.OK {
			t.Errorf("%s, %+v: %+v, %d were got, error %d, not %+v, %d", x.name, k.q, a, got, err, k.want, k.got)
		}
		x.is(t, k.q)
	}
}

// P14.3: the k-d tree of (1) to (7): the Fork (4) has (2) and (6), (2) has (1) and (3), (6) has (5) and (7).
func TestKnownForks(t *testing.T) {
	falling := api.Order{Kind: api.Fall}
	rows := func(l ...int64) api.Answer {
		var a api.Answer
		for _, x := range l {
			a.Rows = append(a.Rows, api.Row{x})
		}
		return a
	}
	x := built(t, kinds[0], 1, line(1, 7))
	x.knows(t, []known{
		{by(least, greatest, api.Order{}, -1), rows(1, 2, 3, 4, 5, 6, 7), 7},
		{by(least, greatest, falling, -1), rows(7, 6, 5, 4, 3, 2, 1), 7},
		{by(1, 7, api.Order{}, 7), rows(1, 2, 3, 4, 5, 6, 7), 7},
		{by(1, 7, api.Order{}, 1000), rows(1, 2, 3, 4, 5, 6, 7), 7},
		{by(1, 7, api.Order{}, 0), rows(), 0},
		{by(1, 7, api.Order{}, 1), rows(1), 3},
		{by(1, 7, api.Order{}, 2), rows(1, 2), 3},
		{by(1, 7, api.Order{}, 3), rows(1, 2, 3), 4},
		{by(1, 7, api.Order{}, 4), rows(1, 2, 3, 4), 4},
		{by(1, 7, api.Order{}, 5), rows(1, 2, 3, 4, 5), 6},
		{by(1, 7, api.Order{}, 6), rows(1, 2, 3, 4, 5, 6), 6},
		{by(1, 7, falling, 1), rows(7), 3},
		{by(1, 7, falling, 2), rows(7, 6), 3},
		{by(1, 7, falling, 3), rows(7, 6, 5), 4},
		{by(1, 7, falling, 5), rows(7, 6, 5, 4, 3), 6},
		{by(3, 5, api.Order{}, -1), rows(3, 4, 5), 5},
		{by(3, 5, api.Order{}, 1), rows(3), 3},
		{by(3, 5, falling, 1), rows(5), 3},
		{by(6, 6, api.Order{}, -1), rows(6), 2},
		{by(6, 6, api.Order{}, 1), rows(6), 2},
		{by(0, 0, api.Order{}, -1), rows(), 0},
		{by(8, 9, api.Order{}, 5), rows(), 0},
		{counting(least, greatest), api.Answer{Count: 7}, 0},
		{counting(1, 7), api.Answer{Count: 7}, 0},
		{counting(1, 6), api.Answer{Count: 6}, 2},
		{counting(2, 7), api.Answer{Count: 6}, 2},
		{counting(2, 6), api.Answer{Count: 5}, 3},
		{counting(4, 4), api.Answer{Count: 1}, 1},
		{counting(5, 7), api.Answer{Count: 3}, 1},
		{counting(3, 3), api.Answer{Count: 1}, 2},
		{counting(8, 9), api.Answer{}, 0},
	})
}

// P14.3: the Z-order tree of (1) to (9): an Inner of the Leaves (1, 2, 3), (4, 5, 6) and (7, 8, 9).
func TestKnownLeaves(t *testing.T) {
	falling := api.Order{Kind: api.Fall}
	x := built(t, kinds[1], 1, line(1, 9))
	x.knows(t, []known{
		{by(least, greatest, api.Order{}, -1), api.Answer{Rows: line(1, 9)}, 4},
		{by(1, 9, api.Order{}, 1), api.Answer{Rows: line(1, 1)}, 2},
		{by(1, 9, api.Order{}, 3), api.Answer{Rows: line(1, 3)}, 2},
		{by(1, 9, api.Order{}, 4), api.Answer{Rows: line(1, 4)}, 3},
		{by(1, 9, falling, 2), api.Answer{Rows: []api.Row{{9}, {8}}}, 2},
		{by(1, 9, falling, 4), api.Answer{Rows: []api.Row{{9}, {8}, {7}, {6}}}, 3},
		{by(3, 4, api.Order{}, -1), api.Answer{Rows: line(3, 4)}, 3},
		{by(3, 4, api.Order{}, 1), api.Answer{Rows: line(3, 3)}, 2},
		{by(4, 6, api.Order{}, 1000), api.Answer{Rows: line(4, 6)}, 2},
		{by(10, 11, api.Order{}, -1), api.Answer{}, 0},
		{counting(1, 9), api.Answer{Count: 9}, 0},
		{counting(0, 10), api.Answer{Count: 9}, 0},
		{counting(1, 8), api.Answer{Count: 8}, 2},
		{counting(2, 8), api.Answer{Count: 7}, 3},
		{counting(4, 9), api.Answer{Count: 6}, 1},
		{counting(5, 5), api.Answer{Count: 1}, 2},
	})
}

// P14.3: all below a kid comes ahead of the next kid of the same node, also where that one's least key is ahead of what is left below the first one.
func TestKidByKid(t *testing.T) {
	s := page.New()
	below := func(a, b api.Row) api.Kid {
		return put(t, s, 2, fork(a, true, put(t, s, 2, fork(b, true, api.Kid{}, api.Kid{})), api.Kid{}))
	}
	// By their columns: of the first kid 1 and then 8, of the second one 2 and then 3.
	root := put(t, s, 2, fork(api.Row{5, 9}, true, below(api.Row{1, 1}, api.Row{2, 8}), below(api.Row{6, 2}, api.Row{7, 3})))
	x := &tree{kinds[0], s, root, 2, nil}
	rising := api.Order{Kind: api.Rising, Col: 1}
	x.knows(t, []known{
		{api.Query{Box: whole(2), Order: rising, Limit: 1}, api.Answer{Rows: []api.Row{{1, 1}}}, 2},
		{api.Query{Box: whole(2), Order: rising, Limit: 2}, api.Answer{Rows: []api.Row{{1, 1}, {6, 2}}}, 4},
		{api.Query{Box: whole(2), Order: rising, Limit: 3}, api.Answer{Rows: []api.Row{{1, 1}, {6, 2}, {7, 3}}}, 5},
		{api.Query{Box: whole(2), Order: api.Order{Kind: api.Fall, Col: 1}, Limit: 1}, api.Answer{Rows: []api.Row{{5, 9}}}, 1},
		{api.Query{Box: whole(2), Order: api.Order{Kind: api.Fall, Col: 1}, Limit: 2}, api.Answer{Rows: []api.Row{{5, 9}, {2, 8}}}, 3},
	})
}

// P14.3: which kid is ahead, and which one is beyond, is told by what both boxes have, not by the kid's box alone.
func TestKidsAreCut(t *testing.T) {
	s := page.New()
	b := api.Query{Box: api.Box{Lo: api.Row{least, 10}, Hi: api.Row{greatest, 50}}, Limit: 1}
	for _, k := range []struct {
		order api.Order
		a, b  api.Node // the Leaf whose box begins further ahead, and the one which may have a row further ahead in the query's box
		want  api.Row
	}{
		{api.Order{Kind: api.Rising, Col: 1}, leaf(api.Row{5, 1}, api.Row{6, 20}), leaf(api.Row{3, 2}, api.Row{4, 10}), api.Row{4, 10}},
		{api.Order{Kind: api.Fall, Col: 1}, leaf(api.Row{5, 99}, api.Row{6, 20}), leaf(api.Row{3, 98}, api.Row{4, 50}), api.Row{4, 50}},
		{api.Order{Kind: api.Near, At: api.Row{3}}, leaf(api.Row{5, 3}, api.Row{6, 20}), leaf(api.Row{3, 5}, api.Row{4, 10}), api.Row{4, 10}},
	} {
		b.Order = k.order
		first, second := put(t, s, 2, k.a), put(t, s, 2, k.b)
		for _, kids := range [][]api.Kid{{first, second}, {second, first}} {
			x := &tree{kinds[1], s, put(t, s, 2, api.Node{Kind: api.Inner, Kids: kids}), 2, nil}
			x.knows(t, []known{{b, api.Answer{Rows: []api.Row{k.want}}, 2}})
		}
	}
}

// P14.3: of kids whose least keys are alike that with the least id comes first.
func TestKidsOfOneKey(t *testing.T) {
	rising := api.Order{Kind: api.Rising, Col: 1}
	for _, k := range []struct {
		first, second api.Row
		limit, got    int
	}{
		{api.Row{1, 7}, api.Row{2, 7}, 1, 2},
		{api.Row{2, 7}, api.Row{1, 7}, 1, 2},
		{api.Row{1, 7}, api.Row{2, 7}, 2, 3},
		{api.Row{1, 8}, api.Row{2, 7}, 1, 2},
		{api.Row{2, 7}, api.Row{1, 8}, 1, 2},
	} {
		s := page.New()
		a, b := put(t, s, 2, leaf(k.first)), put(t, s, 2, leaf(k.second))
		x := &tree{kinds[1], s, put(t, s, 2, api.Node{Kind: api.Inner, Kids: []api.Kid{a, b}}), 2, nil}
		q := api.Query{Box: whole(2), Order: rising, Limit: k.limit}
		x.knows(t, []known{{q, answerOf([]api.Row{k.first, k.second}, q), k.got}})
	}
}

// P14.3: of kids whose least keys and least ids are alike the first one comes first: by its rows more may be beyond below the other one.
func TestKidsThatAreAlike(t *testing.T) {
	s := page.New()
	two := func(a, b api.Row) api.Kid {
		return put(t, s, 2, fork(a, true, put(t, s, 2, fork(b, true, api.Kid{}, api.Kid{})), api.Kid{}))
	}
	// By the least key both may have 8 with the id 1. Ahead is (2, 8): behind it nothing below the other one is needed.
	far, near := two(api.Row{1, 9}, api.Row{9, 8}), two(api.Row{2, 8}, api.Row{1, 9})
	q := api.Query{Box: whole(2), Order: api.Order{Kind: api.Rising, Col: 1}, Limit: 1}
	for _, k := range []struct {
		first, second api.Kid
		got           int
	}{{far, near, 4}, {near, far, 3}} {
		x := &tree{kinds[0], s, put(t, s, 2, fork(api.Row{0, 77}, true, k.first, k.second)), 2, nil}
		x.knows(t, []known{{q, api.Answer{Rows: []api.Row{{2, 8}}}, k.got}})
	}
}

// P14.3: rows that are alike in the order: of unlike ids the lesser one is ahead, whatever way they are come to, and where a Limit cuts them.
func TestAlikeRows(t *testing.T) {
	random := rand.New(rand.NewSource(3))
	for _, d := range []int{2, 3, 5} {
		var rows []api.Row
		for i := range 40 {
			p := all(d, int64(i%3))
			p[0] = int64(i)
			rows = append(rows, p)
		}
		random.Shuffle(len(rows), func(i, j int) { rows[i], rows[j] = rows[j], rows[i] })
		for _, of := range kinds {
			x := grown(t, random, of, d, rows)
			for limit := -1; limit <= 42; limit++ {
				for col := 1; col < d; col++ {
					x.is(t, api.Query{Box: whole(d), Order: api.Order{Kind: api.Rising, Col: col}, Limit: limit})
					x.is(t, api.Query{Box: whole(d), Order: api.Order{Kind: api.Fall, Col: col}, Limit: limit})
				}
				x.is(t, api.Query{Box: whole(d), Order: api.Order{Kind: api.Near, At: all(d-1, 1)}, Limit: limit})
			}
		}
	}
}

// P14.3: a Fork whose row is no more live counts for nothing, but those below it do.
func TestTombstones(t *testing.T) {
	x := built(t, kinds[0], 1, line(1, 7))
	for _, gone := range []int64{4, 2, 7} {
		x.turn(t, kinds[0].delete, api.Row{gone})
	}
	if x.nodes(t) != 7 {
		t.Fatal("the tree was laid anew")
	}
	x.knows(t, []known{
		{by(least, greatest, api.Order{}, -1), api.Answer{Rows: []api.Row{{1}, {3}, {5}, {6}}}, 6},
		{by(least, greatest, api.Order{}, 1), api.Answer{Rows: line(1, 1)}, 3},
		{by(least, greatest, api.Order{}, 2), api.Answer{Rows: []api.Row{{1}, {3}}}, 4},
		{by(2, 2, api.Order{}, -1), api.Answer{}, 2},
		{by(4, 4, api.Order{}, -1), api.Answer{}, 1},
		{by(7, 7, api.Order{}, -1), api.Answer{}, 0},
		{counting(least, greatest), api.Answer{Count: 4}, 0},
		{counting(1, 6), api.Answer{Count: 4}, 0},
		{counting(2, 6), api.Answer{Count: 3}, 2},
		{counting(4, 4), api.Answer{}, 1},
	})
}

// P14.3: trees without live rows: nothing is got, whatever they have, and wherever.
func TestNoLiveRows(t *testing.T) {
	for d := 1; d <= 8; d++ {
		s := page.New()
		var dead api.Kid
		for i := range int64(5) {
			dead = put(t, s, d, fork(all(d, i), false, dead, api.Kid{}))
		}
		queries := []api.Query{{Box: whole(d), Count: true}, {Box: whole(d), Limit: -1}, {Box: whole(d), Limit: 7}, {Box: span(all(d, 1), all(d, 1)), Limit: -1}, {Box: span(all(d, 1), all(d, 1)), Count: true}}
		for _, store := range []*page.Store{s, page.New()} {
			for _, k := range []api.Kid{{}, dead} {
				for _, q := range queries {
					(&tree{kinds[0], store, k, d, nil}).knows(t, []known{{q, api.Answer{}, 0}})
				}
			}
		}
		x := &tree{kinds[0], s, put(t, s, d, fork(all(d, 1), true, api.Kid{}, dead)), d, nil}
		one := api.Answer{Rows: []api.Row{all(d, 1)}}
		x.knows(t, []known{{queries[0], api.Answer{Count: 1}, 0}, {queries[1], one, 1}, {queries[2], one, 1}, {queries[3], one, 1}, {queries[4], api.Answer{Count: 1}, 0}})
	}
}

// P14.3: trees to which a call made elder ones' answers stay.
func TestElderTrees(t *testing.T) {
	random := rand.New(rand.NewSource(4))
	for _, of := range kinds {
		x := &tree{of, page.New(), api.Kid{}, 2, nil}
		var elder []*tree
		for i, p := range points(random, 2, 60, narrow) {
			x.turn(t, of.insert, p)
			x.live = append(slices.Clone(x.live), p)
			if i%3 == 2 {
				at := random.Intn(len(x.live))
				x.turn(t, of.delete, x.live[at])
				x.live = slices.Delete(slices.Clone(x.live), at, at+1)
			}
			then := *x
			elder = append(elder, &then)
		}
		for _, x := range elder {
			for _, q := range x.queries(random)[:25] {
				w := x.is(t, q)
				if a := answerOf(sorted(x.live), q); !same(w.answer(), a) {
					t.Fatalf("%+v: %+v, not %+v", q, w.answer(), a)
				}
			}
		}
	}
}

// sorted tells rows, those with a lesser id first, of one id by the next number, and so on.
func sorted(l []api.Row) []api.Row {
	l = slices.Clone(l)
	slices.SortFunc(l, func(a, b api.Row) int { return slices.Compare(a, b) })
	return l
}
