package morton_test

import (
	"math/rand"
	"slices"
	"strings"
	"testing"

	"indenture/api"
	"indenture/morton"
)

// P5.4: by hand.
func TestAheadKnown(t *testing.T) {
	for _, k := range []struct {
		p, q api.Row
		want bool // and q isn't ahead of p
	}{
		{api.Row{0}, api.Row{1}, true}, {api.Row{-1}, api.Row{0}, true}, {api.Row{least}, api.Row{greatest}, true}, {api.Row{-2}, api.Row{-1}, true}, {api.Row{greatest - 1}, api.Row{greatest}, true},
		{api.Row{0, 0}, api.Row{0, 0}, false}, {api.Row{least}, api.Row{least}, false},
		// The highest bit that is unlike decides, of several such ones that of the first number.
		{api.Row{3, 0}, api.Row{0, 4}, true}, {api.Row{0, 4}, api.Row{4, 0}, true}, {api.Row{0, 7}, api.Row{4, 0}, true}, {api.Row{4, 0}, api.Row{0, 8}, true}, {api.Row{5, 4}, api.Row{5, 5}, true},
		{api.Row{greatest, -1}, api.Row{0, 0}, true}, {api.Row{0, -1}, api.Row{0, greatest}, true}, {api.Row{-1, greatest}, api.Row{0, least}, true}, {api.Row{greatest, least}, api.Row{0, 0}, true},
		{api.Row{-1, -1}, api.Row{-1, 0}, true}, {api.Row{-1, 0}, api.Row{0, -1}, true}, {api.Row{-4, -1}, api.Row{-3, -4}, false},
		{api.Row{-3, -4}, api.Row{-4, -1}, true},
		{api.Row{1, 1, 1, 1, 1, 1, 1, 0}, api.Row{0, 0, 0, 0, 0, 0, 0, 2}, true}, {api.Row{0, 1, 1, 1, 1, 1, 1, 1}, api.Row{1, 0, 0, 0, 0, 0, 0, 0}, true},
	} {
		if got := morton.Ahead(k.p, k.q); got != k.want {
			t.Errorf("%d, %d: %t", k.p, k.q, got)
		}
		if k.want && morton.Ahead(k.q, k.p) {
			t.Errorf("%d, %d: both ahead", k.p, k.q)
		}
	}
}

// stands holds Ahead against the codes, both ways.
func stands(t *testing.T, p, q api.Row) {
	t.Helper()
	place := morton.Cmp(code(t, p), code(t, q))
	if want := strings.Compare(woven(p), woven(q)); place != want {
		t.Errorf("%d, %d: codes by %d, not %d", p, q, place, want)
	}
	if got := morton.Ahead(p, q); got != (place < 0) {
		t.Errorf("%d, %d: %t", p, q, got)
	}
	if got := morton.Ahead(q, p); got != (place > 0) {
		t.Errorf("%d, %d: %t", q, p, got)
	}
}

// P5.4: all points of a few numbers.
func TestAheadGrids(t *testing.T) {
	for _, l := range [][]api.Row{grid(1, edges...), grid(2, least, least+1, -2, -1, 0, 1, 2, greatest), grid(3, -1, 0, 1, 2), grid(4, least, 0, 3)} {
		for _, p := range l {
			for _, q := range l {
				stands(t, p, q)
			}
		}
	}
}

// P5.4: points that are unlike in several numbers, in just one, in none.
func TestAheadAll(t *testing.T) {
	random := rand.New(rand.NewSource(6))
	for d := 1; d <= 8; d++ {
		for range 150 {
			p := point(random, d)
			stands(t, p, point(random, d))
			stands(t, p, near(random, p))
			stands(t, p, slices.Clone(p))
			one := slices.Clone(p)
			one[random.Intn(d)] = point(random, 1)[0]
			stands(t, p, one)
		}
	}
}

// P5.4: points that are unlike in one bit only, and in two: of each two numbers the highest and the lowest one, and those beside each other.
func TestAheadBits(t *testing.T) {
	random := rand.New(rand.NewSource(7))
	for d := 1; d <= 8; d++ {
		for i := range d {
			for bit := range 64 {
				p := point(random, d)
				q := flip(p, i, bit)
				if morton.Ahead(p, q) != (p[i] < q[i]) || morton.Ahead(q, p) != (q[i] < p[i]) {
					t.Errorf("%d, %d", p, q)
				}
			}
			for k := range d {
				for _, bit := range []int{0, 1, 31, 32, 62, 63} {
					p := point(random, d)
					stands(t, p, flip(flip(p, i, bit), k, bit))
					stands(t, p, flip(flip(p, i, bit), k, max(bit-1, 0)))
					stands(t, p, flip(flip(p, i, bit), k, 63-bit))
				}
			}
		}
	}
}

// P5.4: false, too, if they haven't as many numbers, or too many, or none.
func TestAheadRefused(t *testing.T) {
	for m := range 20 {
		for n := range 20 {
			want := m == n && m >= 1 && m <= 8
			if got := morton.Ahead(all(m, 1), all(n, 2)); got != want {
				t.Errorf("%d and %d numbers: %t", m, n, got)
			}
			if morton.Ahead(all(m, 2), all(n, 1)) || morton.Ahead(all(m, 1), all(n, 1)) {
				t.Errorf("%d and %d numbers", m, n)
			}
			if morton.Ahead(all(30, 1)[:m], all(30, 2)[:n]) != want {
				t.Errorf("%d and %d numbers: spare room counts", m, n)
			}
		}
	}
	for _, pair := range [][2]api.Row{{nil, nil}, {nil, {}}, {{}, nil}, {nil, {1}}, {{1}, nil}, {{0, 0}, {1}}, {{0}, {1, 1}}, {all(9, 0), all(9, 1)}, {all(8, 0), all(9, 1)}, {all(9, 0), all(8, 1)}} {
		if morton.Ahead(pair[0], pair[1]) {
			t.Errorf("%d", pair)
		}
	}
}

// P5.4: what is handed in stays as it is, its spare room too.
func TestAheadMemory(t *testing.T) {
	p, q := api.Row{1, 2, 30, 31}, api.Row{3, 1, 40, 41}
	if !morton.Ahead(p[:2], q[:2]) || morton.Ahead(q[:2], p[:2]) {
		t.Error("(1, 2) isn't ahead of (3, 1)")
	}
	if !slices.Equal(p, api.Row{1, 2, 30, 31}) || !slices.Equal(q, api.Row{3, 1, 40, 41}) {
		t.Error("a point was changed", p, q)
	}
}
