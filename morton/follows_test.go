package morton_test

import (
	"math/rand"
	"slices"
	"testing"

	"indenture/api"
	"indenture/morton"
)

// returns holds a point against its code's one, and the code against its point's one.
func returns(t *testing.T, p api.Row) {
	t.Helper()
	c := code(t, p)
	back, err := morton.Point(c, len(p))
	if !slices.Equal(back, p) || err != api.OK {
		t.Errorf("%d: back %d, %d", p, back, err)
	}
	if again := code(t, back); !slices.Equal(again, c) {
		t.Errorf("%d: %d, and back %d", p, c, again)
	}
}

// P5.5: Point of Code is the point, and the other way round.
func TestThereAndBack(t *testing.T) {
	random := rand.New(rand.NewSource(8))
	for _, p := range append(grid(1, edges...), grid(2, edges...)...) {
		returns(t, p)
	}
	for d := 1; d <= 8; d++ {
		for _, x := range edges {
			returns(t, all(d, x))
		}
		for range 200 {
			returns(t, point(random, d))
			c := make([]byte, 8*d)
			random.Read(c)
			p, err := morton.Point(c, d)
			if err != api.OK || !slices.Equal(code(t, p), c) {
				t.Errorf("%d: %d, %d", c, p, err)
			}
		}
	}
}

// behind tells whether a number of p is greater than that of q.
func behind(p, q api.Row) bool {
	for i := range p {
		if p[i] > q[i] {
			return true
		}
	}
	return false
}

// P5.5: where no number of p is greater than that of q, p's code doesn't stand behind q's.
func TestLesserNotBehind(t *testing.T) {
	hold := func(p, q api.Row) {
		if behind(p, q) {
			return
		}
		if morton.Cmp(code(t, p), code(t, q)) > 0 || morton.Ahead(q, p) {
			t.Errorf("%d stands behind %d", p, q)
		}
	}
	for _, l := range [][]api.Row{grid(1, edges...), grid(2, least, -2, -1, 0, 1, greatest), grid(3, -1, 0, 2)} {
		for _, p := range l {
			for _, q := range l {
				hold(p, q)
			}
		}
	}
	random := rand.New(rand.NewSource(9))
	for d := 1; d <= 8; d++ {
		for range 200 {
			p := point(random, d)
			for _, q := range []api.Row{point(random, d), near(random, p), slices.Clone(p)} {
				lower, upper := slices.Clone(p), slices.Clone(p)
				for i := range d {
					lower[i], upper[i] = min(p[i], q[i]), max(p[i], q[i])
				}
				hold(lower, p)
				hold(lower, q)
				hold(p, upper)
				hold(lower, upper)
			}
		}
	}
}

// alike tells with how many same signs two texts of one length begin.
func alike(a, b string) int {
	for i := range len(a) {
		if a[i] != b[i] {
			return i
		}
	}
	return len(a)
}

// P5.5: if two points' codes begin with the same k d bits, each two numbers of them begin with the same k bits; and the other way round, so that no more is promised of a code than it has.
func TestBeginnings(t *testing.T) {
	random := rand.New(rand.NewSource(10))
	seen := map[int]int{}
	for d := 1; d <= 8; d++ {
		for range 400 {
			p := point(random, d)
			q := near(random, p)
			if random.Intn(2) == 0 {
				q = flip(p, random.Intn(d), random.Intn(64))
			}
			least := 64
			for i := range d {
				least = min(least, alike(digits(p[i]), digits(q[i])))
			}
			c, e := code(t, p), code(t, q)
			same := 0
			for same < 64*d && morton.Bit(c, same) == morton.Bit(e, same) {
				same++
			}
			if same/d != least {
				t.Errorf("%d, %d: the codes begin with %d same bits, the numbers with %d", p, q, same, least)
			}
			seen[least]++
		}
	}
	if len(seen) < 60 {
		t.Errorf("just %d lengths were met", len(seen))
	}
}
