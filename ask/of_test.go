package ask_test

import (
	"math/rand"
	"slices"
	"testing"

	"indenture/api"
	"indenture/ask"
)

// ofIs holds Of against the chapter's words.
func ofIs(t *testing.T, l []api.Row, q api.Query) {
	t.Helper()
	if a, err := ask.Of(l, q); !same(a, answerOf(l, q)) || err != api.OK {
		t.Fatalf("%d by %+v: %+v, error %d, not %+v", l, q, a, err, answerOf(l, q))
	}
}

// ofRefused holds against Of that it is ErrArg.
func ofRefused(t *testing.T, l []api.Row, q api.Query) {
	t.Helper()
	if a, err := ask.Of(l, q); len(a.Rows) > 0 || a.Count != 0 || err != api.ErrArg {
		t.Errorf("%d by %+v: %+v, error %d", l, q, a, err)
	}
}

// P14.2: the chapter's examples.
func TestOfKnown(t *testing.T) {
	l := []api.Row{{1, 5}, {2, 3}, {3, 9}}
	for _, k := range []struct {
		q    api.Query
		want api.Answer
	}{
		{api.Query{Box: whole(2), Order: api.Order{Kind: api.Fall, Col: 1}, Limit: 2}, api.Answer{Rows: []api.Row{{3, 9}, {1, 5}}}},
		{api.Query{Box: api.Box{Lo: api.Row{1, 4}, Hi: api.Row{3, 9}}, Count: true}, api.Answer{Count: 2}},
		{api.Query{Box: whole(2), Order: api.Order{Kind: api.Near, At: api.Row{4}}, Limit: 1}, api.Answer{Rows: []api.Row{{1, 5}}}},
		{api.Query{Box: whole(2), Limit: -1}, api.Answer{Rows: l}},
		{api.Query{Box: whole(2), Order: api.Order{Kind: api.Rising, Col: 1}, Limit: -1}, api.Answer{Rows: []api.Row{{2, 3}, {1, 5}, {3, 9}}}},
		{api.Query{Box: whole(2), Order: api.Order{Kind: api.Fall}, Limit: 3}, api.Answer{Rows: []api.Row{{3, 9}, {2, 3}, {1, 5}}}},
		{api.Query{Box: whole(2), Limit: 0}, api.Answer{}},
		{api.Query{Box: whole(2), Count: true}, api.Answer{Count: 3}},
		{api.Query{Box: api.Box{Lo: api.Row{1, 3}, Hi: api.Row{2, 5}}, Limit: 1000}, api.Answer{Rows: []api.Row{{1, 5}, {2, 3}}}},
		{api.Query{Box: api.Box{Lo: api.Row{2, 4}, Hi: api.Row{3, 8}}, Limit: -1}, api.Answer{}},
	} {
		if a, err := ask.Of(l, k.q); !same(a, k.want) || err != api.OK {
			t.Errorf("%+v: %+v, error %d", k.q, a, err)
		}
		for _, of := range kinds {
			x := built(t, of, 2, l)
			if a, _, err := ask.Tree(x.store, x.kid, k.q, 2); !same(a, k.want) || err != api.OK {
				t.Errorf("%s, %+v: %+v, error %d", of.name, k.q, a, err)
			}
		}
	}
}

// P14.2: rows of no, one and many, some of them more than once, some with ids that are alike: at each order, each Limit from -1 to more than there are, and by Count.
func TestOf(t *testing.T) {
	random := rand.New(rand.NewSource(1))
	for d := 1; d <= 8; d++ {
		for _, n := range []int{0, 1, 2, 3, 7, 25} {
			for _, l := range [][]api.Row{numbered(random, d, n, narrow), points(random, d, n, wide), twice(random, d, n)} {
				for _, o := range orders(random, d) {
					for limit := -1; limit < n+3; limit++ {
						ofIs(t, l, api.Query{Box: whole(d), Order: o, Limit: limit})
						ofIs(t, l, api.Query{Box: span(all(d, -1), all(d, 7)), Order: o, Limit: limit})
					}
					ofIs(t, l, api.Query{Box: whole(d), Order: o, Limit: 1000})
				}
				for _, b := range (&tree{d: d, live: l, kid: api.Kid{Box: whole(d)}}).boxes(random) {
					ofIs(t, l, api.Query{Box: b, Count: true})
					ofIs(t, l, api.Query{Box: b, Limit: -1})
				}
			}
		}
	}
}

// twice tells points of few numbers, so that some are the same.
func twice(random *rand.Rand, d, n int) []api.Row {
	var l []api.Row
	for range n {
		p := some(random, d, []int64{0, 1})
		l = append(l, p)
	}
	return l
}

// P14.2: rows that are the same in the order, id and all, stay as they stand.
func TestOfStands(t *testing.T) {
	l := []api.Row{{1, 5, 9}, {1, 5, 3}, {0, 5, 7}, {1, 5, 6}, {1, 4, 0}}
	for _, k := range []struct {
		o    api.Order
		want []api.Row
	}{
		{api.Order{}, []api.Row{{0, 5, 7}, {1, 5, 9}, {1, 5, 3}, {1, 5, 6}, {1, 4, 0}}},
		{api.Order{Kind: api.Rising, Col: 1}, []api.Row{{1, 4, 0}, {0, 5, 7}, {1, 5, 9}, {1, 5, 3}, {1, 5, 6}}},
		{api.Order{Kind: api.Fall, Col: 1}, []api.Row{{0, 5, 7}, {1, 5, 9}, {1, 5, 3}, {1, 5, 6}, {1, 4, 0}}},
	} {
		for limit := -1; limit < 7; limit++ {
			want := k.want
			if limit >= 0 {
				want = want[:min(limit, len(want))]
			}
			if a, err := ask.Of(l, api.Query{Box: whole(3), Order: k.o, Limit: limit}); !alike(a.Rows, want) || err != api.OK {
				t.Errorf("%+v, %d: %d, error %d", k.o, limit, a.Rows, err)
			}
		}
	}
}

// P14.2: many rows: more than the greatest Limit.
func TestOfMany(t *testing.T) {
	random := rand.New(rand.NewSource(2))
	l := numbered(random, 3, 1500, narrow)
	for _, o := range orders(random, 3) {
		for _, limit := range []int{-1, 999, 1000} {
			ofIs(t, l, api.Query{Box: whole(3), Order: o, Limit: limit})
		}
	}
	ofIs(t, l, api.Query{Box: whole(3), Count: true})
}

// P14.2: ErrArg of queries that may not be, of no rows for as many dimensions as their box has.
func TestOfWrongQueries(t *testing.T) {
	random := rand.New(rand.NewSource(3))
	for d := 1; d <= 8; d++ {
		for _, l := range [][]api.Row{nil, {}, points(random, d, 1, narrow), points(random, d, 5, narrow)} {
			for _, b := range wrongBoxes(d) {
				if q := (api.Query{Box: b, Limit: -1}); len(l) > 0 || !mayBe(q, len(b.Lo)) {
					ofRefused(t, l, q)
					ofRefused(t, l, api.Query{Box: b, Count: true})
				}
			}
			for _, o := range wrongOrders(d) {
				ofRefused(t, l, api.Query{Box: whole(d), Order: o, Limit: -1})
				ofRefused(t, l, api.Query{Box: whole(d), Order: o, Count: true})
			}
			for _, limit := range wrongLimits {
				ofRefused(t, l, api.Query{Box: whole(d), Limit: limit})
				ofRefused(t, l, api.Query{Box: whole(d), Limit: limit, Count: true})
			}
			for _, limit := range []int{-1, 1} {
				ofRefused(t, l, api.Query{Box: whole(d), Limit: limit, Count: true})
			}
		}
	}
	ofRefused(t, nil, api.Query{})
	ofRefused(t, nil, api.Query{Count: true})
	ofRefused(t, []api.Row{{}}, api.Query{Limit: -1})
	ofRefused(t, []api.Row{nil, nil}, api.Query{Box: whole(1), Limit: -1})
	ofRefused(t, []api.Row{all(9, 1)}, api.Query{Box: api.Box{Lo: all(9, 1), Hi: all(9, 1)}, Limit: -1})
	ofRefused(t, nil, api.Query{Box: api.Box{Lo: all(9, 1), Hi: all(9, 1)}, Limit: -1})
}

// P14.2: ErrArg, if a row, whichever, has another number of dimensions, whether it would be in the box or not, and whatever the Limit.
func TestOfWrongRows(t *testing.T) {
	random := rand.New(rand.NewSource(4))
	for d := 1; d <= 8; d++ {
		for _, n := range []int{1, 2, 3, 6} {
			l := points(random, d, n, narrow)
			for at := range l {
				for other := range 12 {
					if other == d {
						continue
					}
					wrong := slices.Clone(l)
					wrong[at] = all(other, 1)
					for _, q := range []api.Query{{Box: whole(d), Limit: -1}, {Box: whole(d), Limit: 0}, {Box: whole(d), Limit: 1}, {Box: whole(d), Count: true}, {Box: span(all(d, 50), all(d, 60)), Limit: -1}} {
						ofRefused(t, wrong, q)
					}
					if other >= 1 && other <= 8 {
						q := api.Query{Box: whole(other), Limit: -1}
						if n == 1 {
							ofIs(t, wrong, q)
						} else {
							ofRefused(t, wrong, q)
						}
					}
				}
			}
			for other := 1; other <= 8; other++ {
				if other != d {
					ofRefused(t, l, api.Query{Box: whole(other), Limit: -1})
					ofRefused(t, l, api.Query{Box: whole(other), Count: true})
				}
			}
		}
	}
}
