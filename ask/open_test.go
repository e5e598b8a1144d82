package ask_test

import (
	"math/rand"
	"testing"

	"indenture/api"
	"indenture/ask"
)

// openIs holds Open against the chapter's words.
func openIs(t *testing.T, q api.Query, k api.Kid) bool {
	t.Helper()
	got := ask.Open(q, k)
	if got != isOpen(q, k) {
		t.Errorf("Open(%+v, %+v): %t", q, k, got)
	}
	return got
}

// pastIs holds Past against the chapter's words.
func pastIs(t *testing.T, q api.Query, k api.Kid, last api.Row) bool {
	t.Helper()
	got := ask.Past(q, k, last)
	if got != isPast(q, k, last) {
		t.Errorf("Past(%+v, %+v, %d): %t", q, k, last, got)
	}
	return got
}

// of tells a kid with a box.
func of(live int, b api.Box) api.Kid { return api.Kid{Live: live, Size: live, Box: b} }

// P14.4: Open at the edges of boxes: those that just meet and just don't, that just hold and just don't.
func TestOpenKnown(t *testing.T) {
	at := func(lo, hi int64) api.Box { return api.Box{Lo: api.Row{lo, 0}, Hi: api.Row{hi, 9}} }
	for _, k := range []struct {
		query, kid  api.Box
		rows, count bool // is it open to a query of rows, to one that counts
	}{
		{at(0, 9), at(0, 9), true, false},
		{at(0, 9), at(1, 8), true, false},
		{at(0, 9), at(0, 10), true, true},
		{at(0, 9), at(-1, 9), true, true},
		{at(0, 9), at(9, 10), true, true},
		{at(0, 9), at(9, 9), true, false},
		{at(0, 9), at(10, 11), false, false},
		{at(0, 9), at(-3, 0), true, true},
		{at(0, 9), at(-3, -1), false, false},
		{at(5, 5), at(0, 9), true, true},
		{at(5, 5), at(5, 5), true, false},
		{at(5, 5), at(4, 4), false, false},
		{at(least, greatest), at(0, 9), true, false},
		{at(0, 9), at(least, greatest), true, true},
		{at(greatest, greatest), at(0, greatest), true, true},
		{at(least, least), at(least, 0), true, true},
	} {
		for _, limit := range []int{-1, 1, 2, 1000} {
			if openIs(t, api.Query{Box: k.query, Limit: limit}, of(5, k.kid)) != k.rows {
				t.Errorf("%d, %d, Limit %d", k.query, k.kid, limit)
			}
		}
		if openIs(t, api.Query{Box: k.query, Count: true}, of(5, k.kid)) != k.count {
			t.Errorf("%d, %d, counted", k.query, k.kid)
		}
		for _, q := range []api.Query{{Box: k.query, Limit: -1}, {Box: k.query, Limit: 7}, {Box: k.query, Count: true}} {
			if openIs(t, q, of(0, k.kid)) || openIs(t, q, api.Kid{Size: 3, Box: k.kid}) || openIs(t, q, api.Kid{}) {
				t.Errorf("%+v, %d without live rows", q, k.kid)
			}
		}
		if openIs(t, api.Query{Box: k.query, Limit: 0}, of(5, k.kid)) {
			t.Errorf("%d, %d, Limit 0", k.query, k.kid)
		}
	}
}

// corners tells all boxes of two numbers of a few, those that aren't right too.
func corners() []api.Box {
	l := []api.Box{{}, {Lo: api.Row{0}, Hi: api.Row{1}}, {Lo: api.Row{0, 0}}, {Hi: api.Row{0, 0}}, {Lo: api.Row{0, 0}, Hi: api.Row{1}}, {Lo: api.Row{0, 0, 0}, Hi: api.Row{1, 1, 1}}}
	var points []api.Row
	for _, x := range []int64{0, 1, 2} {
		for _, y := range []int64{0, 1, 2} {
			points = append(points, api.Row{x, y})
		}
	}
	for _, p := range points {
		for _, q := range points {
			l = append(l, api.Box{Lo: p, Hi: q})
		}
	}
	return l
}

// P14.4: all boxes of a few numbers, right or not, by each kind of query: Open, and Past at each row.
func TestOpenPastAll(t *testing.T) {
	queries := []api.Query{{Count: true}, {Limit: -1}, {Limit: 0}, {Limit: 3}, {Order: api.Order{Kind: api.Rising, Col: 1}, Limit: 1}, {Order: api.Order{Kind: api.Fall, Col: 1}, Limit: 1}, {Order: api.Order{Kind: api.Fall}, Limit: 1}, {Order: api.Order{Kind: api.Near, At: api.Row{1}}, Limit: 1}}
	rows := []api.Row{nil, {0}, {1, 1, 1}}
	for _, x := range []int64{-1, 0, 1, 2, 3} {
		for _, y := range []int64{-1, 0, 1, 2} {
			rows = append(rows, api.Row{x, y})
		}
	}
	met := map[string]int{}
	for _, q := range queries {
		for _, a := range corners() {
			q.Box = a
			for _, b := range corners() {
				if openIs(t, q, of(1, b)) {
					met["open"]++
				}
				for _, r := range rows {
					if pastIs(t, q, of(1, b), r) {
						met["past"]++
					}
				}
			}
		}
	}
	if met["open"] < 1000 || met["past"] < 10000 {
		t.Errorf("%v", met)
	}
}

// P14.4: Past where the last row's key is the box's least one, and its id is, just is less, just is more; by what both boxes have.
func TestPastKnown(t *testing.T) {
	q := api.Query{Box: api.Box{Lo: api.Row{10, 10}, Hi: api.Row{20, 20}}, Limit: 1}
	k := of(3, api.Box{Lo: api.Row{5, 15}, Hi: api.Row{30, 40}}) // both have (10, 15) to (20, 20)
	for _, x := range []struct {
		o    api.Order
		last api.Row
		want bool
	}{
		{api.Order{}, api.Row{9, 0}, true},
		{api.Order{}, api.Row{10, 0}, false},
		{api.Order{}, api.Row{5, 0}, true},
		{api.Order{Kind: api.Rising, Col: 1}, api.Row{99, 14}, true},
		{api.Order{Kind: api.Rising, Col: 1}, api.Row{9, 15}, true},
		{api.Order{Kind: api.Rising, Col: 1}, api.Row{10, 15}, false},
		{api.Order{Kind: api.Rising, Col: 1}, api.Row{11, 15}, false},
		{api.Order{Kind: api.Rising, Col: 1}, api.Row{0, 16}, false},
		{api.Order{Kind: api.Fall, Col: 1}, api.Row{99, 21}, true},
		{api.Order{Kind: api.Fall, Col: 1}, api.Row{9, 20}, true},
		{api.Order{Kind: api.Fall, Col: 1}, api.Row{10, 20}, false},
		{api.Order{Kind: api.Fall, Col: 1}, api.Row{0, 19}, false},
		{api.Order{Kind: api.Fall}, api.Row{21, 0}, true},
		{api.Order{Kind: api.Fall}, api.Row{20, 0}, false},
		{api.Order{Kind: api.Near, At: api.Row{12}}, api.Row{99, 10}, true},
		{api.Order{Kind: api.Near, At: api.Row{12}}, api.Row{9, 9}, true},
		{api.Order{Kind: api.Near, At: api.Row{12}}, api.Row{9, 15}, true},
		{api.Order{Kind: api.Near, At: api.Row{12}}, api.Row{10, 15}, false},
		{api.Order{Kind: api.Near, At: api.Row{17}}, api.Row{10, 17}, false},
		{api.Order{Kind: api.Near, At: api.Row{17}}, api.Row{9, 17}, true},
		{api.Order{Kind: api.Near, At: api.Row{40}}, api.Row{9, 20}, true},
		{api.Order{Kind: api.Near, At: api.Row{40}}, api.Row{9, 19}, false},
	} {
		q.Order = x.o
		if pastIs(t, q, k, x.last) != x.want {
			t.Errorf("%+v, %d: %t", x.o, x.last, !x.want)
		}
		for _, other := range []api.Kid{{}, of(3, api.Box{}), of(3, api.Box{Lo: api.Row{21, 10}, Hi: api.Row{22, 20}}), of(3, api.Box{Lo: api.Row{5}, Hi: api.Row{30}})} {
			if pastIs(t, q, other, x.last) {
				t.Errorf("%+v, %+v, %d: nothing is in both", x.o, other, x.last)
			}
		}
		if pastIs(t, q, k, x.last[:1]) || pastIs(t, q, k, append(api.Row{0}, x.last...)) || pastIs(t, q, k, nil) {
			t.Errorf("%+v: a row of other dimensions", x.o)
		}
	}
	for _, o := range wrongOrders(2) {
		q.Order = o
		if pastIs(t, q, k, api.Row{least, least}) || pastIs(t, q, k, api.Row{greatest, greatest}) {
			t.Errorf("%+v", o)
		}
	}
}

// P14.4: kids and queries of chance, of all dimensions, and of such as there aren't.
func TestOpenPastByChance(t *testing.T) {
	random := rand.New(rand.NewSource(1))
	met := map[string]int{}
	for range 60000 {
		d := 1 + random.Intn(9)
		from := [][]int64{narrow, wide}[random.Intn(2)]
		b := span(some(random, d, from), some(random, d, from))
		k := of([]int{1, 1, 1, 7, 0, -1}[random.Intn(6)], span(some(random, d, from), some(random, d, from)))
		by := append(orders(random, d), wrongOrders(d)[random.Intn(8)])
		q := api.Query{Box: b, Order: by[random.Intn(len(by))], Limit: random.Intn(4) - 2, Count: random.Intn(4) == 0}
		if openIs(t, q, k) {
			met["open"]++
		}
		if pastIs(t, q, k, some(random, d, from)) {
			met["past"]++
		}
	}
	if met["open"] < 3000 || met["past"] < 3000 {
		t.Errorf("%v", met)
	}
}
