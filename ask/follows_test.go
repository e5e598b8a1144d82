package ask_test

import (
	"math/rand"
	"slices"
	"testing"

	"indenture/api"
	"indenture/ask"
	"indenture/page"
)

// P14.5: Tree is Of of the tree's live rows, as the tree's own call tells them where no two have one id; it gets no more nodes than the tree has.
func TestTreeIsOf(t *testing.T) {
	random := rand.New(rand.NewSource(1))
	for d := 1; d <= 8; d++ {
		for _, n := range []int{0, 1, 3, 8, 30, 80} {
			for _, of := range kinds {
				x := grown(t, random, of, d, numbered(random, d, n, [][]int64{narrow, wide}[n%2]))
				rows, err := of.rows(x.store, x.kid, d)
				if len(rows) != n || err != api.OK {
					t.Fatalf("%d rows, error %d", len(rows), err)
				}
				nodes := x.nodes(t)
				for _, q := range x.queries(random) {
					want, err := ask.Of(rows, q)
					if err != api.OK {
						t.Fatalf("error %d", err)
					}
					if a, got, err := ask.Tree(x.store, x.kid, q, d); !same(a, want) || got > nodes || got < 0 || err != api.OK {
						t.Fatalf("%s, %+v: %+v, %d of %d nodes, error %d, not %+v", of.name, q, a, got, nodes, err, want)
					}
				}
			}
		}
	}
}

// P14.5: both trees of the same rows answer the same, however these came to them: also where rows have one id, so that they may be alike in an order.
func TestBothTrees(t *testing.T) {
	random := rand.New(rand.NewSource(2))
	ties := 0
	for d := 1; d <= 8; d++ {
		for _, n := range []int{1, 5, 20, 60} {
			for _, rows := range [][]api.Row{numbered(random, d, n, narrow), points(random, d, n, narrow), points(random, d, n, wide)} {
				x := grown(t, random, kinds[0], d, rows)
				others := []*tree{built(t, kinds[0], d, rows), built(t, kinds[1], d, rows), grown(t, random, kinds[1], d, rows)}
				ordered := sorted(rows)
				for _, q := range x.queries(random) {
					want, _, err := ask.Tree(x.store, x.kid, q, d)
					if err != api.OK || !same(want, answerOf(ordered, q)) {
						t.Fatalf("%+v: %+v, error %d, not %+v", q, want, err, answerOf(ordered, q))
					}
					for _, y := range others {
						if a, _, err := ask.Tree(y.store, y.kid, q, d); !same(a, want) || err != api.OK {
							t.Fatalf("%s, %+v: %+v, error %d, not %+v", y.name, q, a, err, want)
						}
					}
					for i := 1; i < len(want.Rows); i++ {
						if placeOf(q.Order, want.Rows[i-1]).cmp(placeOf(q.Order, want.Rows[i])) == 0 {
							ties++
						}
					}
				}
			}
		}
	}
	if ties < 1000 {
		t.Errorf("%d", ties)
	}
}

// P14.5: rows of one id and one key at the place where a Limit cuts: both trees tell the same ones, whichever node has them.
func TestTiesAtTheLimit(t *testing.T) {
	random := rand.New(rand.NewSource(3))
	var rows []api.Row
	for _, x := range []int64{0, 1, 2, 3} {
		for _, y := range []int64{0, 3, 5, 7} {
			for _, z := range []int64{0, 1, 6} {
				rows = append(rows, api.Row{4, x, y, z})
			}
		}
	}
	random.Shuffle(len(rows), func(i, j int) { rows[i], rows[j] = rows[j], rows[i] })
	for _, of := range kinds {
		for _, x := range []*tree{built(t, of, 4, rows), grown(t, random, of, 4, rows)} {
			for _, o := range orders(random, 4) {
				for limit := -1; limit <= len(rows)+1; limit++ {
					q := api.Query{Box: whole(4), Order: o, Limit: limit}
					w := x.is(t, q)
					if a := answerOf(sorted(rows), q); !same(a, w.answer()) {
						t.Fatalf("%+v: %d, not %d", q, w.answer(), a)
					}
				}
			}
		}
	}
}

// P14.2, P14.5: Of hangs on no order of the rows, where no two have one id; what it tells is in the box, in order, and no fewer than may be.
func TestOfFollows(t *testing.T) {
	random := rand.New(rand.NewSource(4))
	for d := 1; d <= 8; d++ {
		x := built(t, kinds[0], d, numbered(random, d, 20, narrow))
		for _, q := range x.queries(random) {
			l := slices.Clone(x.live)
			want, err := ask.Of(l, q)
			if err != api.OK {
				t.Fatalf("error %d", err)
			}
			for range 3 {
				random.Shuffle(len(l), func(i, j int) { l[i], l[j] = l[j], l[i] })
				if a, err := ask.Of(l, q); !same(a, want) || err != api.OK {
					t.Fatalf("%+v: %+v, error %d, not %+v", q, a, err, want)
				}
			}
			for i, r := range want.Rows {
				if !has(q.Box, r) || i > 0 && placeOf(q.Order, want.Rows[i-1]).cmp(placeOf(q.Order, r)) >= 0 {
					t.Fatalf("%+v: %d", q, want.Rows)
				}
			}
		}
	}
}

// P14.4, P14.5: a tree that isn't open to a query, or is past the last row of its answer, turns no answer: none of its rows is told, nor missed.
func TestOpenPastFollow(t *testing.T) {
	random := rand.New(rand.NewSource(5))
	met := map[string]int{}
	for d := 1; d <= 8; d++ {
		x := built(t, kinds[1], d, numbered(random, d, 12, narrow))
		for range 200 {
			rows := numbered(random, d, 1+random.Intn(4), narrow)
			for _, r := range rows {
				r[0] += 1000
			}
			k := built(t, kinds[1], d, rows).kid
			q := x.queries(random)[random.Intn(20)]
			a, _ := ask.Of(x.live, q)
			both, _ := ask.Of(slices.Concat(x.live, rows), q)
			switch full := q.Limit > 0 && len(a.Rows) == q.Limit; {
			case !ask.Open(q, k) && !q.Count:
				met["closed"]++
			case !ask.Open(q, k):
				met["counted"]++
				if a.Count += len(rows); !holds(q.Box, k.Box) {
					a.Count -= len(rows)
				}
			case full && ask.Past(q, k, a.Rows[q.Limit-1]):
				met["past"]++
			default:
				continue
			}
			if !same(a, both) {
				t.Fatalf("%+v, %d and %d: %+v, not %+v", q, x.live, rows, both, a)
			}
		}
	}
	if met["closed"] < 100 || met["counted"] < 50 || met["past"] < 20 {
		t.Errorf("%v", met)
	}
}

// P14.3, P14.5: many rows: the answer and the nodes are the words', few of them where the Limit is small, and by both trees the same.
func TestManyRows(t *testing.T) {
	random := rand.New(rand.NewSource(6))
	var rows []api.Row
	for i := range int64(5000) {
		rows = append(rows, api.Row{i, random.Int63n(1000) - 500, random.Int63()})
	}
	s := page.New()
	var l []*tree
	for _, of := range kinds {
		k, err := of.build(s, rows, 3)
		if err != api.OK {
			t.Fatalf("error %d", err)
		}
		l = append(l, &tree{of, s, k, 3, rows})
	}
	for _, b := range []api.Box{whole(3), {Lo: api.Row{500, -100, 0}, Hi: api.Row{4000, 100, greatest}}, {Lo: api.Row{0, 7, 0}, Hi: api.Row{5000, 7, greatest}}} {
		for _, o := range []api.Order{{}, {Kind: api.Rising, Col: 1}, {Kind: api.Fall, Col: 2}, {Kind: api.Near, At: api.Row{100, 1 << 62}}} {
			for _, limit := range []int{-1, 1, 10, 1000} {
				q := api.Query{Box: b, Order: o, Limit: limit}
				if few := l[0].is(t, q); limit == 1 && len(few.got) > 2500 {
					t.Errorf("%+v: %d nodes", q, len(few.got))
				}
				l[1].is(t, q)
			}
		}
		for _, x := range l {
			x.is(t, api.Query{Box: b, Count: true})
		}
	}
}
