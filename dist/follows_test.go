package dist_test

import (
	"math/rand"
	"slices"
	"testing"

	"indenture/api"
	"indenture/dist"
)

// few tells all points of n numbers of a few ones, edges among them.
func few(n int) []api.Row {
	l := []api.Row{{}}
	for range n {
		var longer []api.Row
		for _, p := range l {
			for _, x := range []int64{least, -1, 0, 1, greatest} {
				longer = append(longer, append(slices.Clone(p), x))
			}
		}
		l = longer
	}
	return l
}

func between(t *testing.T, p, q api.Row) api.Dist {
	t.Helper()
	d, err := dist.Between(p, q)
	if err != api.OK {
		t.Fatalf("%d, %d: error %d", p, q, err)
	}
	return d
}

func toBox(t *testing.T, p api.Row, b api.Box) api.Dist {
	t.Helper()
	d, err := dist.ToBox(p, b)
	if err != api.OK {
		t.Fatalf("%d, %d: error %d", p, b, err)
	}
	return d
}

func both(a, b api.Dist) api.Dist {
	d := dist.Add(a, b.Lo)
	d.Hi += b.Hi
	return d
}

// ways holds P3.5's first sentence against three points.
func ways(t *testing.T, p, q, by api.Row) {
	t.Helper()
	d := between(t, p, q)
	if d != between(t, q, p) {
		t.Errorf("%d, %d: not the same both ways", p, q)
	}
	if (d == api.Dist{}) != slices.Equal(p, q) {
		t.Errorf("%d, %d: %d", p, q, d)
	}
	if dist.Cmp(d, both(between(t, p, by), between(t, by, q))) > 0 {
		t.Errorf("%d, %d: shorter by %d", p, q, by)
	}
}

// P3.5: the same both ways, 0 just of the same point, by a third one no shorter.
func TestBetweenFollows(t *testing.T) {
	for n := 1; n <= 2; n++ {
		for _, p := range few(n) {
			for _, q := range few(n) {
				for _, by := range few(n) {
					ways(t, p, q, by)
				}
			}
		}
	}
	random := rand.New(rand.NewSource(6))
	for n := 1; n <= api.MaxDims; n++ {
		for range 200 {
			p := point(random, n)
			ways(t, p, point(random, n), point(random, n))
			ways(t, p, slices.Clone(p), point(random, n))
		}
	}
}

func within(p api.Row, b api.Box) bool {
	for i, n := range p {
		if n < b.Lo[i] || n > b.Hi[i] {
			return false
		}
	}
	return true
}

// P3.5: of a few points no point of a box is nearer than ToBox, and one is as near.
func TestToBoxFollows(t *testing.T) {
	points := few(2)
	for _, lo := range points {
		for _, hi := range points {
			b := api.Box{Lo: lo, Hi: hi}
			for _, p := range points {
				far, reached := toBox(t, p, b), false
				for _, q := range points { // a box's points that are nearest have p's numbers or a corner's, so they are among these
					if within(q, b) {
						c := dist.Cmp(far, between(t, p, q))
						if c > 0 {
							t.Errorf("%d to %d: %d is nearer to %d", lo, hi, q, p)
						}
						reached = reached || c == 0
					}
				}
				if none := hi[0] < lo[0] || hi[1] < lo[1]; reached == none {
					t.Errorf("%d to %d: a point as near as %d is there: %t", lo, hi, p, reached)
				}
			}
		}
	}
}

// P3.5: the same of points of each count of numbers.
func TestToBoxFollowsFar(t *testing.T) {
	random := rand.New(rand.NewSource(7))
	for n := 1; n <= api.MaxDims; n++ {
		for range 200 {
			p, b := point(random, n), api.Box{Lo: point(random, n), Hi: point(random, n)}
			inner, nearest := make(api.Row, n), make(api.Row, n)
			for i := range n {
				b.Lo[i], b.Hi[i] = min(b.Lo[i], b.Hi[i]), max(b.Lo[i], b.Hi[i])
				inner[i] = max(b.Lo[i], min(b.Hi[i], int64(random.Uint64())))
				nearest[i] = max(b.Lo[i], min(b.Hi[i], p[i]))
			}
			far := toBox(t, p, b)
			if dist.Cmp(between(t, p, inner), far) < 0 {
				t.Errorf("%d: %d is nearer to %d", b, inner, p)
			}
			if between(t, p, nearest) != far {
				t.Errorf("%d: %d is %d from %d", b, nearest, far, p)
			}
		}
	}
}
