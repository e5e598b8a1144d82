package zbscan_test

import (
	"math/big"
	"math/rand"
	"testing"

	"indenture/api"
	"indenture/page"
	"indenture/zbscan"
	"indenture/zbtree"
)

// between tells how many rows of a tree have codes from that of a box's lower corner to that of its upper one.
func (x *tree) between(b api.Box) int { return x.upTo(number(b.Hi)) - x.from(number(b.Lo)) }

// inOrder tells whether rows stand by their codes, each of them once.
func inOrder(rows []api.Row) bool {
	for i := 1; i < len(rows); i++ {
		if number(rows[i-1]).Cmp(number(rows[i])) >= 0 {
			return false
		}
	}
	return true
}

// P13.4: Scan and Pieces tell the rows that are in the box, each once, by their codes; no fewer rows are looked at than are told, and no more than there are between the box's first code and its last one, and one behind that.
func TestScansFollow(t *testing.T) {
	random := rand.New(rand.NewSource(1))
	most, behind := 0, 0
	for d := 1; d <= 8; d++ {
		for _, x := range trees(t, random, d) {
			for i, b := range x.boxes(random)[:20] {
				rows, looked, err := zbscan.Scan(x.store, x.kid, b, d)
				if !alike(rows, x.in(b)) || !inOrder(rows) || err != api.OK {
					t.Fatalf("Scan by %d: %d, error %d, not %d", b, rows, err, x.in(b))
				}
				if looked < len(rows) || looked > x.between(b)+1 {
					t.Fatalf("%d: %d looked at for %d; %d are between", b, looked, len(rows), x.between(b))
				}
				most += count(looked == x.between(b)+1)
				behind += count(looked < x.between(b))
				if i%10 > 0 {
					continue
				}
				if rows, err := zbscan.Pieces(x.store, x.kid, b, d, i%11); !alike(rows, x.in(b)) || !inOrder(rows) || err != api.OK {
					t.Fatalf("Pieces by %d: %d, error %d, not %d", b, rows, err, x.in(b))
				}
			}
		}
	}
	if most < 100 || behind < 100 {
		t.Errorf("%d, %d", most, behind)
	}
}

// P13.4: a scan by the chapter's words, against which Scan is held, looks at no row twice, and at none behind the last code in the box but one.
func TestWordsFollow(t *testing.T) {
	random := rand.New(rand.NewSource(2))
	for d := 1; d <= 8; d++ {
		x := built(t, d, points(random, d, 60, narrow))
		for _, b := range x.boxes(random) {
			s := x.scanIs(t, b)
			if !inOrder(s.looked) || !alike(s.rows, x.in(b)) {
				t.Errorf("%d: %d, %d", b, s.looked, s.rows)
			}
			for i, r := range s.looked {
				if i < len(s.looked)-1 && number(r).Cmp(number(b.Hi)) > 0 {
					t.Errorf("%d: %d", b, s.looked)
				}
			}
		}
	}
}

// P13.4: where each point of a box is a row, just these are looked at, however thin the box, and however many rows lie between.
func TestFullWindows(t *testing.T) {
	for _, k := range []struct {
		d     int
		width int64
	}{{1, 500}, {2, 40}, {3, 8}, {4, 5}} {
		x := built(t, k.d, window(k.d, -3, k.width))
		for side := range k.d {
			for at := int64(-3); at < k.width-3; at++ {
				b := span(all(k.d, -3), all(k.d, k.width-4))
				b.Lo[side], b.Hi[side] = at, at
				rows, looked, err := zbscan.Scan(x.store, x.kid, b, k.d)
				if looked != len(rows) || !alike(rows, x.in(b)) || err != api.OK {
					t.Errorf("%d: %d of %d, error %d", b, looked, len(rows), err)
				}
			}
		}
	}
}

// P13.4: many rows, as zbtree tells them: by boxes that have many of them, and by thin ones.
func TestManyRows(t *testing.T) {
	random := rand.New(rand.NewSource(3))
	var points []api.Row
	for i := range int64(20000) {
		points = append(points, api.Row{i, random.Int63n(1000) - 500, random.Int63()})
	}
	s := page.New()
	k, err := zbtree.Build(s, points, 3)
	if err != api.OK {
		t.Fatalf("error %d", err)
	}
	rows, err := zbtree.Rows(s, k, 3)
	if err != api.OK {
		t.Fatalf("error %d", err)
	}
	for _, b := range []api.Box{
		whole(3),
		{Lo: api.Row{5000, least, least}, Hi: api.Row{15000, greatest, greatest}},
		{Lo: api.Row{0, -100, 0}, Hi: api.Row{20000, 100, greatest}},
		{Lo: api.Row{0, 7, 0}, Hi: api.Row{20000, 7, greatest}},
		{Lo: api.Row{777, -500, 0}, Hi: api.Row{777, 500, greatest}},
		{Lo: api.Row{0, 0, 5}, Hi: api.Row{20000, 500, 1 << 61}},
	} {
		var want []api.Row
		for _, r := range rows {
			if has(b, r) {
				want = append(want, r)
			}
		}
		got, looked, err := zbscan.Scan(s, k, b, 3)
		if !alike(got, want) || looked < len(want) || looked > len(rows) || err != api.OK {
			t.Errorf("%d: %d of %d, %d looked at, error %d", b, len(got), len(want), looked, err)
		}
		if got, err := zbscan.Pieces(s, k, b, 3, 10); !alike(got, want) || err != api.OK {
			t.Errorf("%d: %d of %d, error %d", b, len(got), len(want), err)
		}
	}
}

// P13.1, P13.4: First, from the code behind each row that it told, tells all rows once, by their codes; Last likewise backwards.
func TestStepsFollow(t *testing.T) {
	random := rand.New(rand.NewSource(4))
	for d := 1; d <= 8; d++ {
		for _, x := range trees(t, random, d) {
			at, c := 0, new(big.Int)
			for ; c.Cmp(end(d)) <= 0; at++ {
				r, ok, err := zbscan.First(x.store, x.kid, code(c, d), d)
				if !ok || err != api.OK {
					break
				}
				if at == len(x.rows) || !alike([]api.Row{r}, x.rows[at:at+1]) {
					t.Fatalf("row %d: %d", at, r)
				}
				c = new(big.Int).Add(number(r), one)
			}
			if at != len(x.rows) {
				t.Errorf("%d of %d rows", at, len(x.rows))
			}
			for c = end(d); c.Sign() >= 0; at-- {
				r, ok, err := zbscan.Last(x.store, x.kid, code(c, d), d)
				if !ok || err != api.OK {
					break
				}
				if at == 0 || !alike([]api.Row{r}, x.rows[at-1:at]) {
					t.Fatalf("row %d: %d", at, r)
				}
				c = new(big.Int).Sub(number(r), one)
			}
			if at != 0 {
				t.Errorf("%d rows weren't told", at)
			}
		}
	}
}
