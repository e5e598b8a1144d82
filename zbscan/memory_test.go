package zbscan_test

import (
	"math/rand"
	"slices"
	"testing"

	"indenture/api"
	"indenture/node"
	"indenture/page"
	"indenture/zbscan"
)

// roomy is a copy of a list with elements behind it that aren't of it.
func roomy[T byte | int64](l []T) []T { return append(slices.Clone(l), 77, 78, 79)[:len(l)] }

// stays tells whether what stands behind a list is what roomy put there.
func stays[T byte | int64](l []T) bool {
	return slices.Equal(l[len(l):len(l)+3], []T{77, 78, 79})
}

func roomyBox(b api.Box) api.Box { return api.Box{Lo: roomy(b.Lo), Hi: roomy(b.Hi)} }

func boxStays(b api.Box) bool { return stays(b.Lo) && stays(b.Hi) }

func roomyKid(k api.Kid) api.Kid {
	k.Box, k.Key = roomyBox(k.Box), roomy(k.Key)
	return k
}

func kidStays(k api.Kid) bool { return boxStays(k.Box) && stays(k.Key) }

// spoil writes over a list, and the room behind it.
func spoil[T byte | int64](l []T) {
	for i := range l[:cap(l)] {
		l[:cap(l)][i] ^= 0x5a
	}
}

func copyRows(l []api.Row) []api.Row {
	c := slices.Clone(l)
	for i := range c {
		c[i] = slices.Clone(c[i])
	}
	return c
}

// calls are all calls with a tree, a code, and a box, each told as rows.
func calls(s *page.Store, d int) []func(k api.Kid, c []byte, b api.Box) []api.Row {
	one := func(r api.Row, ok bool, _ api.Errno) []api.Row {
		if !ok {
			return nil
		}
		return []api.Row{r}
	}
	l := []func(k api.Kid, c []byte, b api.Box) []api.Row{
		func(k api.Kid, c []byte, _ api.Box) []api.Row { return one(zbscan.First(s, k, c, d)) },
		func(k api.Kid, c []byte, _ api.Box) []api.Row { return one(zbscan.Last(s, k, c, d)) },
		func(k api.Kid, _ []byte, b api.Box) []api.Row { rows, _, _ := zbscan.Scan(s, k, b, d); return rows },
	}
	for _, depth := range []int{-1, 0, 3, 10, 11} {
		l = append(l, func(k api.Kid, _ []byte, b api.Box) []api.Row {
			rows, _ := zbscan.Pieces(s, k, b, d, depth)
			return rows
		})
	}
	return l
}

// P13.1 to P13.3: codes, boxes and kids that are handed in stay as they are, their spare room too, whatever comes of it; written over behind it they turn nothing; and nothing is put.
func TestWhatIsHandedInStays(t *testing.T) {
	random := rand.New(rand.NewSource(1))
	for _, d := range []int{1, 2, 3, 8} {
		for _, n := range []int{0, 1, 4, 20} {
			x := grown(t, random, d, points(random, d, n, narrow))
			for i, b := range append(x.boxes(random), api.Box{}, api.Box{Lo: all(d, 2), Hi: all(d, 1)}, whole(d%8+1)) {
				c := code(number(some(random, d, narrow)), d)
				if i%7 == 0 {
					c = make([]byte, 8*d-1)
				}
				for _, whose := range []api.Kid{x.kid, {Size: 1}} {
					for _, dims := range []int{d, 0, 9, d%8 + 1} {
						stay(t, x.store, whose, c, b, dims)
					}
				}
			}
		}
	}
}

// stay holds against all calls with a tree, a code and a box that these stay.
func stay(t *testing.T, s *page.Store, whose api.Kid, code []byte, box api.Box, d int) {
	t.Helper()
	was := s.Sums()
	for i, call := range calls(s, d) {
		k, c, b := roomyKid(whose), roomy(code), roomyBox(box)
		told := call(k, c, b)
		if !node.Same(k, whose) || !kidStays(k) || !slices.Equal(c, code) || !stays(c) || !alike([]api.Row{b.Lo, b.Hi}, []api.Row{box.Lo, box.Hi}) || !boxStays(b) {
			t.Fatalf("call %d: %+v, %d, %d; they were %+v, %d, %d", i, k, c, b, whose, code, box)
		}
		kept := copyRows(told)
		for _, l := range [][]int64{k.Box.Lo, k.Box.Hi, k.Key, b.Lo, b.Hi} {
			spoil(l)
		}
		spoil(c)
		if !alike(told, kept) {
			t.Fatalf("call %d: %d turned with what was handed in, it was %d", i, told, kept)
		}
		if again := call(roomyKid(whose), roomy(code), roomyBox(box)); !alike(again, kept) {
			t.Fatalf("call %d: %d again, not %d", i, again, kept)
		}
	}
	nothingPut(t, s, was)
}

// P13.1 to P13.3: rows that were told may be written over, their spare room too: no other one turns, nor does the tree, nor does another answer.
func TestToldRows(t *testing.T) {
	random := rand.New(rand.NewSource(2))
	for _, d := range []int{1, 2, 3, 8} {
		x := built(t, d, points(random, d, 30, narrow))
		for i, call := range calls(x.store, d) {
			for _, b := range []api.Box{whole(d), span(x.rows[0], x.rows[9]), span(x.rows[3], x.rows[3])} {
				c := code(x.codes[5], d)
				one, two := call(x.kid, c, b), call(x.kid, c, b)
				kept := copyRows(one)
				for j, r := range one {
					_ = append(r, 5, 5)
					spoil(r)
					if !alike(one[j+1:], kept[j+1:]) {
						t.Fatalf("call %d: rows turned with row %d", i, j)
					}
				}
				if len(one) > 0 {
					_ = append(one, api.Row{4})
					one[0] = nil
				}
				if !alike(two, kept) {
					t.Fatalf("call %d: %d, they were %d", i, two, kept)
				}
				if again := call(x.kid, c, b); !alike(again, kept) {
					t.Fatalf("call %d: %d again, they were %d", i, again, kept)
				}
			}
		}
		x.scanIs(t, whole(d))
	}
}

// P13.1 to P13.3: a store that is the zero one is asked like a new one.
func TestZeroStore(t *testing.T) {
	var s page.Store
	x := &tree{listed(2, nil), &s, api.Kid{}}
	x.firstIs(t, number(api.Row{0, 0}))
	x.scanIs(t, whole(2))
	x.piecesAre(t, whole(2), 10)
	k := put(t, &s, 2, leaf(api.Row{1, 2}, api.Row{3, 4}))
	x = &tree{listed(2, []api.Row{{1, 2}, {3, 4}}), &s, k}
	x.firstIs(t, number(api.Row{3, 3}))
	x.scanIs(t, whole(2))
	x.piecesAre(t, whole(2), 10)
}
