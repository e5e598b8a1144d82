package page_test

import (
	"math/rand"
	"slices"
	"testing"

	"indenture/api"
	"indenture/page"
)

// strangers are sums that no page has.
func strangers() []api.Digest {
	l := []api.Digest{{}, {31: 1}, sum([]byte("no page")), turned(sum(nil), 0), turned(sum(text(1, 1)), 255)}
	for i := range l[0] {
		l[0][i] = 255
	}
	return append(l, api.Digest{})
}

// P9.3: no list and an empty one give up all; a list of all sums nothing, whatever their order, and however often they stand there; one of strangers all.
func TestKeepAllOrNothing(t *testing.T) {
	for _, n := range []int{0, 1, 2, 3, 40} {
		_, m := filled(t, texts(n)...)
		all := sums(m...)
		back := slices.Clone(all)
		slices.Reverse(back)
		for i, l := range [][]api.Digest{nil, {}, strangers(), all, back, slices.Concat(all, back, all), slices.Concat(strangers(), all, strangers()), slices.Repeat(all, 50)} {
			s, m := filled(t, m...)
			left := kept(t, s, m, l, n, i)
			if i < 3 && len(left) != 0 || i >= 3 && len(left) != n {
				t.Errorf("a weak test: %d of %d", len(left), n)
			}
			holds(t, s, left, n, i)
			if k := s.Keep(l); k != 0 {
				t.Errorf("%d given up by the same list again", k)
			}
			holds(t, s, left, n, i)
		}
	}
}

// P9.3: each set of some texts, of which one is of no byte: with sums twice, and with strangers between; what is given up can't be got, what is left can.
func TestKeepSome(t *testing.T) {
	all := texts(7)
	for set := range 1 << len(all) {
		s, m := filled(t, all...)
		var l []api.Digest
		for i, b := range all {
			if set>>i&1 == 1 {
				l = append(l, sum(b))
			}
		}
		if set%3 == 1 {
			l = slices.Concat(l, l)
		}
		if set%2 == 1 {
			l = slices.Concat(strangers(), l, strangers())
		}
		left := kept(t, s, m, l, set)
		holds(t, s, left, set)
		for _, b := range all {
			if left.at(sum(b)) < 0 {
				lacks(t, s, sum(b), set)
			}
		}
	}
}

// P9.3: just one of many, and all but one.
func TestKeepOne(t *testing.T) {
	all := texts(300)
	for _, i := range []int{0, 1, 150, 299} {
		s, m := filled(t, all...)
		if n := s.Keep(sums(all[i])); n != 299 {
			t.Errorf("%d given up", n)
		}
		holds(t, s, model{all[i]}, i)
		s, m = filled(t, all...)
		but := slices.Delete(slices.Clone(all), i, i+1)
		left := kept(t, s, m, sums(but...), i)
		if len(left) != 299 {
			t.Errorf("a weak test: %d left", len(left))
		}
		holds(t, s, left, i)
		lacks(t, s, sum(all[i]), i)
	}
}

// P9.2, P9.3, P9.5: what was given up may be put again, and is got; a list names those that are there, not those that were or will be.
func TestPutAgain(t *testing.T) {
	all := texts(12)
	s, m := filled(t, all...)
	for i := range all {
		m = kept(t, s, m, sums(all[i]), i)
		holds(t, s, m, i)
		for k, b := range all {
			if k != i {
				lacks(t, s, sum(b), i, k)
			}
		}
		for _, b := range all {
			put(t, s, b)
			m = m.with(b)
			holds(t, s, m, i)
		}
	}
	s, m = filled(t, all[0])
	m = kept(t, s, m, sums(all...))
	put(t, s, all[1])
	holds(t, s, m.with(all[1]))
	if n := s.Keep(nil); n != 2 {
		t.Errorf("%d given up", n)
	}
	put(t, s, all[0])
	holds(t, s, model{all[0]})
}

// P9.1 to P9.5: scripts by chance do to a store what they do to a plain list of texts; a second one to which the same is done tells the same.
func TestScripts(t *testing.T) {
	pool := texts(30)
	for seed := range int64(100) {
		random := rand.New(rand.NewSource(seed))
		s, twin, m := page.New(), page.New(), model(nil)
		for step := range 80 {
			if random.Intn(6) > 0 {
				b := pool[random.Intn(len(pool))]
				m = m.with(b)
				put(t, s, b)
				put(t, twin, b)
			} else {
				var l []api.Digest
				for range random.Intn(60) {
					l = append(l, sum(pool[random.Intn(len(pool))]))
				}
				if random.Intn(4) == 0 {
					l = append(l, strangers()...)
				}
				kept(t, twin, m, l, seed, step)
				m = kept(t, s, m, l, seed, step)
			}
			holds(t, s, m, seed, step)
			if !slices.Equal(twin.Sums(), s.Sums()) || twin.Len() != s.Len() {
				t.Errorf("seed %d, step %d: the twin is unlike", seed, step)
			}
		}
		holds(t, twin, m, seed)
	}
}
