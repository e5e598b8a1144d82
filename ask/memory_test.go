package ask_test

import (
	"math/rand"
	"slices"
	"testing"

	"indenture/api"
	"indenture/ask"
	"indenture/node"
	"indenture/page"
)

// roomy is a copy of a row with numbers behind it that aren't of it.
func roomy(l api.Row) api.Row { return append(slices.Clone(l), 77, 78, 79)[:len(l)] }

// stays tells whether what stands behind a row is what roomy put there.
func stays(l api.Row) bool { return slices.Equal(l[len(l):len(l)+3], api.Row{77, 78, 79}) }

func roomyBox(b api.Box) api.Box { return api.Box{Lo: roomy(b.Lo), Hi: roomy(b.Hi)} }

func boxStays(b, was api.Box) bool {
	return alike([]api.Row{b.Lo, b.Hi}, []api.Row{was.Lo, was.Hi}) && stays(b.Lo) && stays(b.Hi)
}

func roomyKid(k api.Kid) api.Kid {
	k.Box, k.Key = roomyBox(k.Box), roomy(k.Key)
	return k
}

func kidStays(k, was api.Kid) bool {
	return node.Same(k, was) && boxStays(k.Box, was.Box) && stays(k.Key)
}

func roomyQuery(q api.Query) api.Query {
	q.Box, q.Order.At = roomyBox(q.Box), roomy(q.Order.At)
	return q
}

func queryStays(q, was api.Query) bool {
	return boxStays(q.Box, was.Box) && slices.Equal(q.Order.At, was.Order.At) && stays(q.Order.At)
}

// roomyRows is a copy of rows, with rows behind them.
func roomyRows(l []api.Row) []api.Row {
	c := append(slices.Clone(l), api.Row{77}, api.Row{78})
	for i := range c {
		c[i] = roomy(c[i])
	}
	return c[:len(l)]
}

func rowsStay(l, was []api.Row) bool {
	behind := l[len(l) : len(l)+2]
	return alike(l, was) && !slices.ContainsFunc(l[:len(l)+2], func(r api.Row) bool { return !stays(r) }) && alike(behind, []api.Row{{77}, {78}})
}

// spoil writes over rows, and the room behind them.
func spoil(l ...api.Row) {
	for _, r := range l {
		for i := range r[:cap(r)] {
			r[:cap(r)][i] ^= 0x5a5a
		}
	}
}

// spoilQuery writes over a query's lists.
func spoilQuery(q api.Query) { spoil(q.Box.Lo, q.Box.Hi, q.Order.At) }

func copyAnswer(a api.Answer) api.Answer {
	a.Rows = slices.Clone(a.Rows)
	for i, r := range a.Rows {
		a.Rows[i] = slices.Clone(r)
	}
	return a
}

// some queries, of which some may not be.
func mixed(x *tree, random *rand.Rand) []api.Query {
	d := x.d
	return append(x.queries(random)[:20],
		api.Query{Box: whole(d), Limit: -1}, api.Query{Box: whole(d), Limit: 1000}, api.Query{Box: whole(d), Limit: 3}, api.Query{Box: whole(d), Count: true},
		api.Query{}, api.Query{Box: api.Box{Lo: all(d, 2), Hi: all(d, 1)}, Limit: -1}, api.Query{Box: whole(d%8 + 1), Limit: -1}, api.Query{Box: whole(d), Limit: 1001}, api.Query{Box: whole(d), Order: api.Order{Kind: 9, At: all(d, 5)}})
}

// P14.1 to P14.4: queries, rows and kids that are handed in stay as they are, their spare room too, whatever comes of it; written over behind it they turn nothing; and nothing is put.
func TestWhatIsHandedInStays(t *testing.T) {
	random := rand.New(rand.NewSource(1))
	for _, d := range []int{1, 2, 3, 8} {
		for _, of := range kinds {
			for _, n := range []int{0, 1, 5, 20} {
				x := grown(t, random, of, d, points(random, d, n, narrow))
				was := x.store.Sums()
				for _, q := range mixed(x, random) {
					ofStays(t, x.live, q)
					for _, whose := range []api.Kid{x.kid, {Live: 1, Size: 1, Box: whole(d)}} {
						treeStays(t, &tree{of, x.store, whose, d, x.live}, q)
						asksStay(t, q, whose, some(random, d, narrow))
					}
				}
				nothingPut(t, x.store, was)
			}
		}
	}
}

// ofStays holds against Of by rows and a query that these stay.
func ofStays(t *testing.T, l []api.Row, query api.Query) {
	t.Helper()
	rows, q := roomyRows(l), roomyQuery(query)
	a, err := ask.Of(rows, q)
	if !rowsStay(rows, l) || !queryStays(q, query) {
		t.Fatalf("%d, %+v; they were %d, %+v", rows, q, l, query)
	}
	kept := copyAnswer(a)
	spoil(rows...)
	spoilQuery(q)
	for i := range rows[:cap(rows)] {
		rows[:cap(rows)][i] = nil
	}
	if !same(a, kept) {
		t.Fatalf("%+v turned with what was handed in, it was %+v", a, kept)
	}
	if again, other := ask.Of(roomyRows(l), roomyQuery(query)); !same(again, kept) || other != err {
		t.Fatalf("%+v again, not %+v", again, kept)
	}
}

// treeStays holds against Tree by a query that it stays, and the kid does.
func treeStays(t *testing.T, x *tree, query api.Query) {
	t.Helper()
	k, q := roomyKid(x.kid), roomyQuery(query)
	a, got, err := ask.Tree(x.store, k, q, x.d)
	if !kidStays(k, x.kid) || !queryStays(q, query) {
		t.Fatalf("%+v, %+v; they were %+v, %+v", k, q, x.kid, query)
	}
	kept := copyAnswer(a)
	spoil(k.Box.Lo, k.Box.Hi, k.Key)
	spoilQuery(q)
	if !same(a, kept) {
		t.Fatalf("%+v turned with what was handed in, it was %+v", a, kept)
	}
	if again, more, other := ask.Tree(x.store, roomyKid(x.kid), roomyQuery(query), x.d); !same(again, kept) || more != got || other != err {
		t.Fatalf("%+v, %d again, not %+v, %d", again, more, kept, got)
	}
}

// asksStay holds against Right, Open and Past that what is handed in stays.
func asksStay(t *testing.T, query api.Query, whose api.Kid, row api.Row) {
	t.Helper()
	k, q, r := roomyKid(whose), roomyQuery(query), roomy(row)
	ask.Right(q, len(row))
	ask.Open(q, k)
	ask.Past(q, k, r)
	if !kidStays(k, whose) || !queryStays(q, query) || !slices.Equal(r, row) || !stays(r) {
		t.Fatalf("%+v, %+v, %d; they were %+v, %+v, %d", k, q, r, whose, query, row)
	}
}

// P14.2, P14.3: what was told may be written over, its spare room too: no other row turns, nor does the tree, nor what was handed in, nor does another answer.
func TestToldRows(t *testing.T) {
	random := rand.New(rand.NewSource(2))
	for _, d := range []int{1, 2, 3, 8} {
		for _, of := range kinds {
			x := grown(t, random, of, d, points(random, d, 30, narrow))
			rows := x.live
			for _, call := range []func(q api.Query) api.Answer{
				func(q api.Query) api.Answer { a, _ := ask.Of(rows, q); return a },
				func(q api.Query) api.Answer { a, _, _ := ask.Tree(x.store, x.kid, q, d); return a },
			} {
				was := copyAnswer(api.Answer{Rows: rows}).Rows
				for _, q := range mixed(x, random) {
					toldMayTurn(t, call, q)
				}
				if !alike(rows, was) {
					t.Fatal("rows that were handed in turned")
				}
			}
			x.is(t, api.Query{Box: whole(d), Limit: -1})
		}
	}
}

// toldMayTurn writes over what a call tells.
func toldMayTurn(t *testing.T, call func(q api.Query) api.Answer, q api.Query) {
	t.Helper()
	one, two := call(q), call(q)
	kept := copyAnswer(one)
	for j, r := range one.Rows {
		_ = append(r, 5, 5)
		spoil(r)
		if !alike(one.Rows[j+1:], kept.Rows[j+1:]) {
			t.Fatalf("rows turned with row %d", j)
		}
	}
	clear(one.Rows[:cap(one.Rows)])
	if !same(two, kept) {
		t.Fatalf("%+v, they were %+v", two, kept)
	}
	if again := call(q); !same(again, kept) {
		t.Fatalf("%+v again, they were %+v", again, kept)
	}
}

// P14.3: a store that is the zero one is asked like a new one.
func TestZeroStore(t *testing.T) {
	var s page.Store
	q := api.Query{Box: whole(2), Limit: -1}
	(&tree{kinds[1], &s, api.Kid{}, 2, nil}).knows(t, []known{{q, api.Answer{}, 0}})
	treeRefused(t, &s, api.Kid{Live: 1, Size: 1, Box: whole(2)}, q, 2, api.ErrForm)
	k := put(t, &s, 2, leaf(api.Row{1, 2}, api.Row{3, 4}))
	(&tree{kinds[1], &s, k, 2, nil}).knows(t, []known{{q, api.Answer{Rows: []api.Row{{1, 2}, {3, 4}}}, 1}})
}
