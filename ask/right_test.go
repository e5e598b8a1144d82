package ask_test

import (
	"math"
	"math/rand"
	"slices"
	"testing"

	"indenture/api"
	"indenture/ask"
)

// rightIs holds Right against the chapter's words, of all dimensions.
func rightIs(t *testing.T, q api.Query) {
	t.Helper()
	for _, d := range dims {
		if got := ask.Right(q, d); got != mayBe(q, d) {
			t.Errorf("%+v for %d: %t", q, d, got)
		}
	}
}

// wrongBoxes tells boxes that aren't right for d dimensions.
func wrongBoxes(d int) []api.Box {
	l := []api.Box{{}, {Lo: api.Row{}, Hi: api.Row{}}, {Lo: all(d, 0)}, {Hi: all(d, 0)}, {Lo: all(d, 1), Hi: all(d, 0)}, {Lo: all(d, greatest), Hi: all(d, least)}}
	for _, n := range []int{d - 1, d + 1, d + 8, 300} {
		l = append(l, api.Box{Lo: all(n, 0), Hi: all(n, 0)}, api.Box{Lo: all(n, 0), Hi: all(d, 0)}, api.Box{Lo: all(d, 0), Hi: all(n, 0)})
	}
	for side := range d {
		b := api.Box{Lo: all(d, 0), Hi: all(d, 5)}
		b.Hi[side] = -1
		l = append(l, b)
	}
	return l
}

// wrongOrders tells orders of each kind that aren't right for d dimensions.
func wrongOrders(d int) []api.Order {
	l := []api.Order{{Col: 1}, {Col: -1}, {At: api.Row{0}}, {At: all(d-1, 0), Col: 1}, {Kind: api.Rising}, {Kind: api.Fall, Col: -1}}
	for _, kind := range []byte{4, 5, 77, 128, 255} {
		l = append(l, api.Order{Kind: kind}, api.Order{Kind: kind, Col: 1}, api.Order{Kind: kind, At: all(d-1, 0)})
	}
	for _, kind := range []byte{api.Rising, api.Fall} {
		for _, col := range []int{d, d + 1, 8, 9, -1, math.MinInt, math.MaxInt, d + 1<<32} {
			l = append(l, api.Order{Kind: kind, Col: col})
		}
		l = append(l, api.Order{Kind: kind, Col: d - 1, At: api.Row{0}}, api.Order{Kind: kind, Col: d - 1, At: all(max(d-1, 1), 0)})
	}
	for _, n := range []int{0, d - 2, d, d + 1, 8, 300} {
		if n >= 0 && (n != d-1 || d == 1) {
			l = append(l, api.Order{Kind: api.Near, At: all(n, 0)})
		}
	}
	return append(l, api.Order{Kind: api.Near, Col: 1, At: all(d-1, 0)}, api.Order{Kind: api.Near, Col: -1, At: all(d-1, 0)})
}

var wrongLimits = []int{math.MinInt, -1 << 40, -1000, -2, 1001, 1002, 1 << 20, 1<<32 - 1, 1 << 32, math.MaxInt}

// P14.1: queries that may be, by each order and Limit, and counting ones; and which dimensions they may be for.
func TestRight(t *testing.T) {
	random := rand.New(rand.NewSource(1))
	for d := 1; d <= 8; d++ {
		for _, b := range []api.Box{whole(d), span(all(d, 0), all(d, 0)), span(all(d, -5), all(d, 7))} {
			counts := api.Query{Box: b, Count: true}
			if !ask.Right(counts, d) {
				t.Errorf("%+v", counts)
			}
			rightIs(t, counts)
			for _, o := range orders(random, d) {
				for _, limit := range []int{-1, 0, 1, 2, 500, 999, 1000} {
					q := api.Query{Box: b, Order: o, Limit: limit}
					if !ask.Right(q, d) {
						t.Errorf("%+v", q)
					}
					rightIs(t, q)
				}
			}
		}
	}
}

// P14.1: an empty list is none.
func TestRightEmpty(t *testing.T) {
	for d := 1; d <= 8; d++ {
		for _, q := range []api.Query{{Count: true}, {Limit: -1}, {Order: api.Order{Kind: api.Fall, Col: d - 1}, Limit: 5}, {Limit: 1000}} {
			q.Box = whole(d)
			q.Order.At = api.Row{}
			if !ask.Right(q, d) {
				t.Errorf("%+v", q)
			}
		}
	}
	if ask.Right(api.Query{}, 0) || ask.Right(api.Query{Count: true}, 0) || ask.Right(api.Query{Box: api.Box{Lo: api.Row{}, Hi: api.Row{}}}, 0) {
		t.Error("the zero query")
	}
}

// P14.1: queries of which one part may not be: the box, the order, the Limit, and Count with an order or a Limit; also where other parts may not be either.
func TestWrong(t *testing.T) {
	random := rand.New(rand.NewSource(2))
	for d := 1; d <= 8; d++ {
		wrong := func(q api.Query) {
			t.Helper()
			if ask.Right(q, d) {
				t.Errorf("%+v for %d", q, d)
			}
			rightIs(t, q)
		}
		for _, b := range wrongBoxes(d) {
			wrong(api.Query{Box: b, Count: true})
			wrong(api.Query{Box: b, Limit: -1})
			wrong(api.Query{Box: b, Order: api.Order{Kind: api.Fall, Col: d - 1}, Limit: 7})
		}
		for _, o := range wrongOrders(d) {
			for _, limit := range []int{-1, 0, 7, 1000, 1001} {
				wrong(api.Query{Box: whole(d), Order: o, Limit: limit})
			}
			wrong(api.Query{Box: whole(d), Order: o, Count: true})
		}
		for _, o := range orders(random, d) {
			for _, limit := range wrongLimits {
				wrong(api.Query{Box: whole(d), Order: o, Limit: limit})
			}
			if o.Kind != 0 {
				wrong(api.Query{Box: whole(d), Order: o, Count: true})
			}
		}
		for _, limit := range append(slices.Clone(wrongLimits), -1, 1, 2, 1000) {
			wrong(api.Query{Box: whole(d), Limit: limit, Count: true})
		}
		for _, o := range []api.Order{{Kind: 1}, {Kind: 2}, {Kind: 3}, {Kind: 255}, {Col: 1}, {Col: -1}, {At: api.Row{0}}, {Kind: 1, Col: 1}, {Kind: 3, At: all(d-1, 0)}} {
			wrong(api.Query{Box: whole(d), Order: o, Count: true})
		}
	}
}

// P14.1: queries of chance, whose parts are of many kinds.
func TestRightByChance(t *testing.T) {
	random := rand.New(rand.NewSource(3))
	met := map[bool]int{}
	for range 40000 {
		d := 1 + random.Intn(8)
		q := api.Query{Box: whole(d), Limit: random.Intn(1003) - 1, Count: random.Intn(3) == 0}
		if random.Intn(4) == 0 {
			l := wrongBoxes(d)
			q.Box = l[random.Intn(len(l))]
		}
		l := orders(random, d+random.Intn(2))
		if random.Intn(4) == 0 {
			l = wrongOrders(d)
		}
		if q.Order = l[random.Intn(len(l))]; random.Intn(3) == 0 {
			q.Order = api.Order{}
		}
		if random.Intn(3) == 0 {
			q.Limit = 0
		}
		got := ask.Right(q, d)
		if met[got]++; got != mayBe(q, d) {
			t.Fatalf("%+v for %d: %t", q, d, got)
		}
	}
	if met[true] < 5000 || met[false] < 5000 {
		t.Errorf("%v", met)
	}
}
