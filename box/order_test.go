package box_test

import (
	"math/big"
	"math/rand"
	"slices"
	"testing"

	"indenture/api"
	"indenture/box"
	"indenture/dist"
)

func rising(col int) api.Order { return api.Order{Kind: api.Rising, Col: col} }
func fall(col int) api.Order   { return api.Order{Kind: api.Fall, Col: col} }
func near(at ...int64) api.Order {
	return api.Order{Kind: api.Near, At: at}
}

// orders tells orders of each kind that are right for d dimensions, each column's and several points' among them.
func orders(random *rand.Rand, d int) []api.Order {
	l := []api.Order{{}, fall(0)}
	for col := 1; col < d; col++ {
		l = append(l, rising(col), fall(col))
	}
	if d > 1 {
		l = append(l, near(all(d-1, 0)...), near(all(d-1, 1)...), near(all(d-1, least)...), near(all(d-1, greatest)...), near(point(random, d-1)...), near(point(random, d-1)...))
	}
	return l
}

// wrong are orders that are right for no dimensions.
func wrong() []api.Order {
	return []api.Order{
		{Col: 1}, {Col: -1}, {At: api.Row{0}}, {Col: 1, At: api.Row{0}},
		rising(0), rising(-1), rising(8), rising(least), rising(greatest), {Kind: api.Rising, Col: 1, At: api.Row{0}},
		fall(-1), fall(8), fall(least), fall(greatest), {Kind: api.Fall, At: api.Row{0}}, {Kind: api.Fall, Col: 1, At: api.Row{0}},
		near(), near(all(8, 0)...), near(all(9, 0)...), {Kind: api.Near, Col: 1, At: api.Row{0}}, {Kind: api.Near, Col: -1, At: api.Row{0}},
		{Kind: 4}, {Kind: 255}, {Kind: 4, Col: 1}, {Kind: 4, At: api.Row{0}},
	}
}

// P4.3: each kind, column, At and count of dimensions, in and beyond the bounds.
func TestOrderRight(t *testing.T) {
	cols := []int{least, -1, 0, 1, 2, 3, 4, 5, 6, 7, 8, 9, greatest}
	for d := -2; d <= 11; d++ {
		for _, kind := range []byte{0, 1, 2, 3, 4, 5, 128, 255} {
			for _, col := range cols {
				for n := range 11 {
					empty := n == 0
					want := kind == 0 && col == 0 && empty ||
						kind == 1 && col >= 1 && col <= d-1 && empty ||
						kind == 2 && col >= 0 && col <= d-1 && empty ||
						kind == 3 && col == 0 && n == d-1 && d >= 2
					want = want && d >= 1 && d <= 8
					if got := box.OrderRight(api.Order{Kind: kind, Col: col, At: all(n, 5)}, d); got != want {
						t.Errorf("kind %d, column %d, at %d numbers, %d dimensions: %t", kind, col, n, d, got)
					}
				}
			}
		}
	}
	for _, d := range []int{least, greatest, 1 << 32} {
		for _, o := range []api.Order{{}, fall(0), rising(1), near(1)} {
			if box.OrderRight(o, d) {
				t.Errorf("%v of %d", o, d)
			}
		}
	}
}

// P4.3: nil and empty are the same.
func TestOrderRightEmpty(t *testing.T) {
	for _, kind := range []byte{api.ById, api.Fall} {
		if !box.OrderRight(api.Order{Kind: kind, At: nil}, 1) || !box.OrderRight(api.Order{Kind: kind, At: api.Row{}}, 1) {
			t.Errorf("kind %d", kind)
		}
	}
	if box.OrderRight(near(), 1) || box.OrderRight(api.Order{Kind: api.Near, At: api.Row{}}, 1) {
		t.Error("near of one dimension")
	}
}

// P4.3
func TestKeyKnown(t *testing.T) {
	const half, most = 1 << 63, 1<<64 - 1
	for _, k := range []struct {
		o    api.Order
		p    api.Row
		want api.Dist
	}{
		{near(0), api.Row{7, -3}, api.Dist{Lo: 3}},
		{api.Order{}, api.Row{0}, api.Dist{Lo: half}},
		{api.Order{}, api.Row{5, 9}, api.Dist{Lo: half + 5}},
		{api.Order{}, api.Row{-5, 9}, api.Dist{Lo: half - 5}},
		{api.Order{}, api.Row{least}, api.Dist{}},
		{api.Order{}, api.Row{greatest}, api.Dist{Lo: most}},
		{rising(1), api.Row{5, 9}, api.Dist{Lo: half + 9}},
		{rising(1), api.Row{5, least}, api.Dist{}},
		{rising(1), api.Row{5, greatest}, api.Dist{Lo: most}},
		{rising(7), api.Row{0, 1, 2, 3, 4, 5, 6, 7}, api.Dist{Lo: half + 7}},
		{fall(0), api.Row{5, 9}, api.Dist{Lo: half - 6}},
		{fall(1), api.Row{5, 9}, api.Dist{Lo: half - 10}},
		{fall(1), api.Row{5, -1}, api.Dist{Lo: half}},
		{fall(1), api.Row{5, least}, api.Dist{Lo: most}},
		{fall(1), api.Row{5, greatest}, api.Dist{}},
		{near(1, 2), api.Row{100, 1, 2}, api.Dist{}},
		{near(1, 2), api.Row{100, 0, 4}, api.Dist{Lo: 3}},
		{near(least, greatest), api.Row{0, greatest, least}, api.Dist{Hi: 1, Lo: most - 1}},
		{near(all(7, least)...), all(8, greatest), api.Dist{Hi: 6, Lo: most - 6}},
	} {
		if got, err := box.Key(k.o, k.p); got != k.want || err != api.OK {
			t.Errorf("%v of %d: %d, %d", k.o, k.p, got, err)
		}
	}
}

// key says P4.3's words with numbers that have no bound.
func key(o api.Order, p api.Row) *big.Int {
	k := new(big.Int).Lsh(big.NewInt(1), 63)
	switch o.Kind {
	case api.ById:
		return k.Add(k, big.NewInt(p[0]))
	case api.Rising:
		return k.Add(k, big.NewInt(p[o.Col]))
	case api.Fall:
		return k.Sub(big.NewInt(greatest), big.NewInt(p[o.Col]))
	}
	k.SetInt64(0)
	for i, at := range o.At {
		d := new(big.Int).Sub(big.NewInt(at), big.NewInt(p[i+1]))
		k.Add(k, d.Abs(d))
	}
	return k
}

func whole(d api.Dist) *big.Int {
	n := new(big.Int).Lsh(new(big.Int).SetUint64(d.Hi), 64)
	return n.Add(n, new(big.Int).SetUint64(d.Lo))
}

// ahead says P4.3's words.
func ahead(o api.Order, p, q api.Row) bool {
	c := key(o, p).Cmp(key(o, q))
	return c < 0 || c == 0 && p[0] < q[0]
}

// P4.3: ordinary rows and edges, of each count of dimensions and in each order.
func TestKeyAndAheadAll(t *testing.T) {
	random := rand.New(rand.NewSource(2))
	for d := 1; d <= 8; d++ {
		for range 100 {
			for _, o := range orders(random, d) {
				p, q := point(random, d), point(random, d)
				if random.Intn(2) == 0 { // so that keys are alike, too
					q = slices.Clone(p)
					q[0] = point(random, 1)[0]
				}
				if got, err := box.Key(o, p); whole(got).Cmp(key(o, p)) != 0 || err != api.OK {
					t.Errorf("%v of %d: %d, %d", o, p, got, err)
				}
				if got := box.Ahead(o, p, q); got != ahead(o, p, q) {
					t.Errorf("%v: %d ahead of %d: %t", o, p, q, got)
				}
			}
		}
	}
}

// P4.3: ErrArg and no key, if the order isn't right for the row's dimensions; a row has from 1 to 8 numbers.
func TestKeyRefused(t *testing.T) {
	for n := range 12 {
		l := append(wrong(), api.Order{}, fall(0))
		for i := 1; i < 10; i++ {
			l = append(l, rising(i), fall(i), near(all(i, 0)...))
		}
		for _, o := range l {
			want := api.OK
			if !box.OrderRight(o, n) {
				want = api.ErrArg
			}
			got, err := box.Key(o, all(n, 3))
			if err != want || err != api.OK && got != (api.Dist{}) {
				t.Errorf("%v of %d numbers: %d, %d", o, n, got, err)
			}
		}
		for _, o := range wrong() {
			if got, err := box.Key(o, all(n, 3)); err != api.ErrArg || got != (api.Dist{}) {
				t.Errorf("%v of %d numbers: %d, %d", o, n, got, err)
			}
		}
	}
	if got, err := box.Key(api.Order{}, nil); err != api.ErrArg || got != (api.Dist{}) {
		t.Error("of none", got, err)
	}
}

// P4.3
func TestAheadKnown(t *testing.T) {
	for _, k := range []struct {
		o    api.Order
		p, q api.Row
		want bool
	}{
		{fall(1), api.Row{1, 9}, api.Row{2, 5}, true},
		{fall(1), api.Row{2, 5}, api.Row{1, 9}, false},
		{rising(1), api.Row{1, 9}, api.Row{2, 5}, false},
		{rising(1), api.Row{2, 5}, api.Row{1, 9}, true},
		{rising(1), api.Row{1, 5}, api.Row{2, 5}, true}, // the same key: the id tells
		{rising(1), api.Row{2, 5}, api.Row{1, 5}, false},
		{fall(1), api.Row{1, 5}, api.Row{2, 5}, true},
		{fall(1), api.Row{2, 5}, api.Row{1, 5}, false},
		{near(0), api.Row{1, 3}, api.Row{2, -3}, true},
		{near(0), api.Row{2, -3}, api.Row{1, 3}, false},
		{near(0), api.Row{9, 2}, api.Row{1, -3}, true},
		{fall(0), api.Row{2}, api.Row{1}, true},
		{fall(0), api.Row{1}, api.Row{2}, false},
		{api.Order{}, api.Row{1}, api.Row{2}, true},
		{api.Order{}, api.Row{-1}, api.Row{1}, true}, // a sign, and the ends
		{api.Order{}, api.Row{least}, api.Row{greatest}, true},
		{api.Order{}, api.Row{greatest}, api.Row{least}, false},
		{rising(1), api.Row{greatest, 0}, api.Row{least, 0}, false},
		{rising(1), api.Row{least, 0}, api.Row{greatest, 0}, true},
		{api.Order{}, api.Row{1, 2}, api.Row{1, 2}, false}, // the same row
		{fall(1), api.Row{1, 2}, api.Row{1, 2}, false},
		{api.Order{}, api.Row{1, 2}, api.Row{1, 3}, false}, // the same key and id
		{rising(2), api.Row{1, 2, 7}, api.Row{1, 3, 7}, false},
		{near(least, least), api.Row{1, greatest, greatest}, api.Row{2, greatest, greatest - 1}, false}, // keys beyond 2^64
		{near(least, least), api.Row{2, greatest, greatest - 1}, api.Row{1, greatest, greatest}, true},
		{near(least, least), api.Row{2, least + 5, least}, api.Row{1, greatest, greatest}, true},
	} {
		if got := box.Ahead(k.o, k.p, k.q); got != k.want {
			t.Errorf("%v: %d ahead of %d: %t", k.o, k.p, k.q, got)
		}
	}
}

// P4.3: false, if the order isn't right for them, or they haven't as many dimensions.
func TestAheadRefused(t *testing.T) {
	for m := range 11 {
		for n := range 11 {
			want := m == n && m >= 1 && m <= 8
			for _, o := range []api.Order{{}, fall(0)} {
				p, q := all(m, 1), all(n, 2)
				if o.Kind == api.Fall {
					p, q = all(m, 2), all(n, 1)
				}
				if got := box.Ahead(o, p, q); got != want {
					t.Errorf("%v: %d ahead of %d: %t", o, p, q, got)
				}
			}
			for _, o := range wrong() {
				if box.Ahead(o, all(m, 1), all(n, 2)) || box.Ahead(o, all(m, 2), all(n, 1)) {
					t.Errorf("%v: %d and %d numbers", o, m, n)
				}
			}
		}
	}
	if box.Ahead(rising(3), all(3, 1), all(3, 2)) || box.Ahead(near(0), all(3, 0), all(3, 2)) || box.Ahead(near(0, 0, 0), all(3, 0), all(3, 2)) {
		t.Error("an order for other dimensions")
	}
}

// P4.4
func TestLeastKnown(t *testing.T) {
	const half, most = 1 << 63, 1<<64 - 1
	b := span(api.Row{-2, 3, 10}, api.Row{4, 8, 20})
	for _, k := range []struct {
		o    api.Order
		b    api.Box
		want api.Dist
		id   int64
	}{
		{api.Order{}, b, api.Dist{Lo: half - 2}, -2},
		{rising(1), b, api.Dist{Lo: half + 3}, -2},
		{rising(2), b, api.Dist{Lo: half + 10}, -2},
		{fall(0), b, api.Dist{Lo: half - 5}, -2},
		{fall(1), b, api.Dist{Lo: half - 9}, -2},
		{fall(2), b, api.Dist{Lo: half - 21}, -2},
		{near(5, 15), b, api.Dist{}, -2},
		{near(3, 20), b, api.Dist{}, -2},
		{near(0, 15), b, api.Dist{Lo: 3}, -2},
		{near(0, 25), b, api.Dist{Lo: 8}, -2},
		{near(9, 0), b, api.Dist{Lo: 11}, -2},
		{api.Order{}, box.Whole(1), api.Dist{}, least},
		{fall(0), box.Whole(1), api.Dist{}, least},
		{api.Order{}, box.Of(api.Row{greatest}), api.Dist{Lo: most}, greatest},
		{fall(0), box.Of(api.Row{least}), api.Dist{Lo: most}, least},
		{fall(0), box.Of(api.Row{greatest}), api.Dist{}, greatest},
		{near(all(7, least)...), box.Of(all(8, greatest)), api.Dist{Hi: 6, Lo: most - 6}, greatest},
		{near(all(7, 3)...), box.Whole(8), api.Dist{}, least},
	} {
		if got, id, err := box.Least(k.o, k.b); got != k.want || id != k.id || err != api.OK {
			t.Errorf("%v of %d: %d, %d, %d", k.o, k.b, got, id, err)
		}
	}
}

// P4.4: all boxes of a few numbers, by their points one by one.
func TestLeastAndBeyondAll(t *testing.T) {
	random := rand.New(rand.NewSource(3))
	for i, numbers := range [][]int64{{least, least + 1, -1, 0, 1, 2, greatest - 1, greatest}, {-1, 0, 1, 2}, {0, 1}} {
		points := grid(i+1, numbers...)
		for _, b := range slices.DeleteFunc(boxes(points), turned) {
			for _, o := range orders(random, i+1) {
				holdLeast(t, o, b, points)
			}
		}
	}
}

// holdLeast holds Least and Beyond against the points of a box. A key's least one is a corner's, or, by nearness, that of a point that has At's numbers or a corner's.
func holdLeast(t *testing.T, o api.Order, b api.Box, points []api.Row) {
	t.Helper()
	var want *big.Int
	look := func(p api.Row) {
		if k := key(o, p); inside(b, p) && (want == nil || k.Cmp(want) < 0) {
			want = k
		}
	}
	for _, p := range points {
		look(p)
	}
	if o.Kind == api.Near {
		p := slices.Clone(b.Lo)
		for i, at := range o.At {
			p[i+1] = max(b.Lo[i+1], min(b.Hi[i+1], at))
		}
		look(p)
	}
	got, id, err := box.Least(o, b)
	if whole(got).Cmp(want) != 0 || id != b.Lo[0] || err != api.OK {
		t.Errorf("%v of %d: %d, %d, %d", o, b, got, id, err)
	}
	for _, p := range points {
		c := key(o, p).Cmp(want)
		if got := box.Beyond(o, b, p); got != (c < 0 || c == 0 && p[0] < b.Lo[0]) {
			t.Errorf("%v: %d beyond %d: %t", o, b, p, got)
		}
	}
}

// P4.4: ErrArg, zero key and zero id, if the box isn't right, or the order isn't right for its dimensions; false then, too.
func TestLeastAndBeyondRefused(t *testing.T) {
	refuse := func(o api.Order, b api.Box) {
		t.Helper()
		if key, id, err := box.Least(o, b); key != (api.Dist{}) || id != 0 || err != api.ErrArg {
			t.Errorf("%v of %d: %d, %d, %d", o, b, key, id, err)
		}
		for n := range 18 {
			if box.Beyond(o, b, all(n, least)) || box.Beyond(o, b, all(n, greatest)) {
				t.Errorf("%v: %d beyond one of %d", o, b, n)
			}
		}
	}
	random := rand.New(rand.NewSource(4))
	for d := 1; d <= 8; d++ {
		for _, o := range orders(random, d) {
			for _, b := range broken() {
				refuse(o, b)
			}
		}
		for _, o := range append(wrong(), rising(d), fall(d), near(all(d, 0)...)) {
			refuse(o, span(all(d, 5), all(d, 6)))
		}
		if d > 2 {
			refuse(near(all(d-2, 0)...), span(all(d, 5), all(d, 6)))
		}
	}
}

// P4.4
func TestBeyondKnown(t *testing.T) {
	b := span(api.Row{5, 10}, api.Row{9, 20})
	for _, k := range []struct {
		o    api.Order
		p    api.Row
		want bool
	}{
		{api.Order{}, api.Row{4, 15}, true}, {api.Order{}, api.Row{5, 15}, false}, {api.Order{}, api.Row{6, 15}, false},
		{rising(1), api.Row{7, 9}, true}, {rising(1), api.Row{7, 10}, false}, {rising(1), api.Row{5, 10}, false}, {rising(1), api.Row{4, 10}, true}, {rising(1), api.Row{4, 11}, false},
		{fall(1), api.Row{7, 21}, true}, {fall(1), api.Row{5, 20}, false}, {fall(1), api.Row{4, 20}, true}, {fall(1), api.Row{4, 19}, false},
		{fall(0), api.Row{10, 0}, true}, {fall(0), api.Row{9, 0}, false}, {fall(0), api.Row{8, 0}, false},
		{near(0), api.Row{7, -9}, true}, {near(0), api.Row{7, 10}, false}, {near(0), api.Row{4, -10}, true}, {near(0), api.Row{4, -11}, false}, {near(0), api.Row{5, -10}, false},
		{near(15), api.Row{4, 15}, true}, {near(15), api.Row{5, 15}, false},
		{api.Order{}, api.Row{4}, false}, {api.Order{}, api.Row{4, 15, 0}, false}, {fall(0), api.Row{10}, false}, {fall(1), api.Row{7, 21, 0}, false}, {api.Order{}, nil, false},
	} {
		if got := box.Beyond(k.o, b, k.p); got != k.want {
			t.Errorf("%v: beyond %d: %t", k.o, k.p, got)
		}
	}
	if !box.Beyond(fall(0), span(api.Row{5}, api.Row{9}), api.Row{10}) || box.Beyond(api.Order{}, box.Whole(1), api.Row{least}) || !box.Beyond(api.Order{}, box.Of(api.Row{greatest}), api.Row{greatest - 1}) {
		t.Error("edges")
	}
}

// sorts holds Sort against the rows that it must tell.
func sorts(t *testing.T, o api.Order, l, want []api.Row) {
	t.Helper()
	if got := box.Sort(o, l); !slices.EqualFunc(got, want, slices.Equal[api.Row]) {
		t.Errorf("%v: %d: %d, not %d", o, l, got, want)
	}
}

// P4.5
func TestSortKnown(t *testing.T) {
	l := []api.Row{{3, 5}, {1, 9}, {2, 5}, {4, -9}}
	sorts(t, api.Order{}, l, []api.Row{{1, 9}, {2, 5}, {3, 5}, {4, -9}})
	sorts(t, fall(0), l, []api.Row{{4, -9}, {3, 5}, {2, 5}, {1, 9}})
	sorts(t, rising(1), l, []api.Row{{4, -9}, {2, 5}, {3, 5}, {1, 9}})
	sorts(t, fall(1), l, []api.Row{{1, 9}, {2, 5}, {3, 5}, {4, -9}})
	sorts(t, near(0), l, []api.Row{{2, 5}, {3, 5}, {1, 9}, {4, -9}})
	sorts(t, near(7), l, []api.Row{{1, 9}, {2, 5}, {3, 5}, {4, -9}})
	sorts(t, api.Order{}, nil, nil)
	sorts(t, api.Order{}, []api.Row{}, nil)
	sorts(t, near(0), []api.Row{{1, 2}}, []api.Row{{1, 2}})
	sorts(t, api.Order{}, []api.Row{{greatest}, {least}, {0}}, []api.Row{{least}, {0}, {greatest}})
	sorts(t, near(least, least), []api.Row{{1, greatest, greatest}, {2, 0, greatest}, {3, least, least}}, []api.Row{{3, least, least}, {2, 0, greatest}, {1, greatest, greatest}})
}

// P4.5: rows neither of which is ahead of the other one stay in their order, the same row twice among them.
func TestSortStays(t *testing.T) {
	sorts(t, api.Order{}, []api.Row{{2, 1}, {1, 9}, {2, 0}, {1, 3}, {1, 5}, {2, 1}}, []api.Row{{1, 9}, {1, 3}, {1, 5}, {2, 1}, {2, 0}, {2, 1}})
	sorts(t, rising(1), []api.Row{{7, 1, 3}, {7, 1, 2}, {7, 1, 1}, {6, 1, 9}}, []api.Row{{6, 1, 9}, {7, 1, 3}, {7, 1, 2}, {7, 1, 1}})
	sorts(t, near(0), []api.Row{{1, 4}, {1, -4}, {1, 4}, {0, -4}}, []api.Row{{0, -4}, {1, 4}, {1, -4}, {1, 4}})
	sorts(t, fall(0), []api.Row{{5, 5}, {5, 5}}, []api.Row{{5, 5}, {5, 5}})
	for _, n := range []int{21, 501} { // lists long enough for each way of sorting
		var l, want []api.Row
		for i := range n {
			l = append(l, api.Row{int64(i % 3), int64(i)})
			want = append(want, api.Row{int64(i / (n / 3)), int64(i%(n/3)*3 + i/(n/3))})
		}
		sorts(t, api.Order{}, l, want)
	}
}

// bySelection says P4.5's words: again and again the first row that none is ahead of.
func bySelection(o api.Order, l []api.Row) []api.Row {
	l = slices.Clone(l)
	var out []api.Row
	for len(l) > 0 {
		first := 0
		for i := range l {
			if ahead(o, l[i], l[first]) {
				first = i
			}
		}
		out = append(out, l[first])
		l = slices.Delete(l, first, first+1)
	}
	return out
}

// P4.5: ordinary rows and edges, of each count of dimensions, with many keys and ids that are alike.
func TestSortAll(t *testing.T) {
	random := rand.New(rand.NewSource(5))
	for d := 1; d <= 8; d++ {
		for n := range 30 {
			l := make([]api.Row, n)
			for i := range l {
				l[i] = point(random, d)
				for j := range l[i] {
					if n%2 == 0 {
						l[i][j] = int64(random.Intn(3)) - 1
					}
				}
			}
			for _, o := range orders(random, d) {
				sorts(t, o, l, bySelection(o, l))
			}
		}
	}
}

// P4.5: none, if the order isn't right for one of the rows, or they haven't as many numbers.
func TestSortRefused(t *testing.T) {
	for _, l := range [][]api.Row{
		{nil}, {{}}, {{}, {}}, {{1}, nil}, {nil, {1}}, {{1}, {1, 2}}, {{1, 2}, {1}}, {{1}, {2}, {3}, {4, 5}}, {{4, 5}, {1}, {2}, {3}},
		{{1, 2}, {3}, {4, 5}}, {all(9, 1)}, {all(8, 1), all(9, 1)}, {all(9, 1), all(8, 1)}, {all(9, 1), all(9, 2)}, {all(17, 1)},
	} {
		for _, o := range []api.Order{{}, fall(0)} {
			sorts(t, o, l, nil)
		}
	}
	for d := 1; d <= 8; d++ {
		for _, o := range append(wrong(), rising(d), fall(d), near(all(d, 0)...)) {
			sorts(t, o, []api.Row{all(d, 1)}, nil)
			sorts(t, o, []api.Row{all(d, 1), all(d, 0)}, nil)
			sorts(t, o, nil, nil)
		}
	}
	sorts(t, rising(1), []api.Row{{1, 2}, {1, 2, 3}}, nil)
	sorts(t, near(0), []api.Row{{1, 2}, {1, 2, 3}}, nil)
	sorts(t, near(0, 0), []api.Row{{1, 2}, {1, 2, 3}}, nil)
}

// P4.5: Sort leaves its argument as it was, and its answer is new memory.
func TestSortIsNew(t *testing.T) {
	room := []api.Row{{3, 30, 77}, {1, 10, 77}, {2, 20, 77}, {0, 0, 77}}
	l := make([]api.Row, 0, 4)
	for _, p := range room {
		l = append(l, p[:2])
	}
	l = l[:3]
	for _, o := range []api.Order{{}, fall(0), rising(1), fall(1), near(15)} {
		first, second := box.Sort(o, l), box.Sort(o, l)
		for i, p := range first {
			p = p[:cap(p)]
			for j := range p {
				p[j] = 99
			}
			for k, q := range first {
				if k > i && slices.Contains(q, 99) {
					t.Errorf("%v: two rows share memory", o)
				}
			}
		}
		clear(first[:cap(first)])
		if !slices.EqualFunc(second, bySelection(o, l), slices.Equal[api.Row]) {
			t.Errorf("%v: two answers share memory: %d", o, second)
		}
	}
	want := []api.Row{{3, 30, 77}, {1, 10, 77}, {2, 20, 77}, {0, 0, 77}}
	if !slices.EqualFunc(room, want, slices.Equal[api.Row]) {
		t.Error("an argument was changed", room)
	}
	for i, p := range l[:4] {
		if !slices.Equal(p, want[i][:2]) {
			t.Error("an argument was changed", l[:4])
		}
	}
	one := []api.Row{{1, 2}}
	box.Sort(api.Order{}, one)[0][1] = 9
	if one[0][1] != 2 {
		t.Error("one row: an answer shares memory with an argument")
	}
}

// P4.3, P4.4: the other arguments stay as they are, too; nor does what stands in spare room count.
func TestOrderArgumentsStay(t *testing.T) {
	at, p, lo, hi := api.Row{0, 5, 9, 9}, api.Row{7, 1, 4, 9}, api.Row{7, 1, 4, 0}, api.Row{8, 2, 6, 0}
	o, b := near(at[:2]...), span(lo[:3], hi[:3])
	k, err := box.Key(o, p[:3])
	first, id, e := box.Least(o, b)
	if k != (api.Dist{Lo: 2}) || err != api.OK || first != (api.Dist{Lo: 1}) || id != 7 || e != api.OK {
		t.Error(k, err, first, id, e)
	}
	if box.Beyond(o, b, p[:3]) || box.Ahead(o, p[:3], lo[:3]) {
		t.Error("the row of the box's corner")
	}
	box.Sort(o, []api.Row{p[:3], lo[:3], hi[:3]})
	if !slices.Equal(at, api.Row{0, 5, 9, 9}) || !slices.Equal(p, api.Row{7, 1, 4, 9}) || !slices.Equal(lo, api.Row{7, 1, 4, 0}) || !slices.Equal(hi, api.Row{8, 2, 6, 0}) {
		t.Error("an argument was changed", at, p, lo, hi)
	}
}

// P4.3: by nearness the key is the distance that layer 3 tells.
func TestKeyIsDistance(t *testing.T) {
	random := rand.New(rand.NewSource(6))
	for d := 2; d <= 8; d++ {
		for range 100 {
			p, at := point(random, d), point(random, d-1)
			want, _ := dist.Between(p[1:], at)
			if got, err := box.Key(near(at...), p); got != want || err != api.OK {
				t.Errorf("%d near %d: %d, %d", p, at, got, err)
			}
		}
	}
}
