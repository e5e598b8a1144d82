package node_test

import (
	"math"
	"math/rand"
	"testing"

	"indenture/api"
	"indenture/node"
	"indenture/page"
)

// said tells what a node says, which must be what the chapter's words make of it.
func said(t *testing.T, n api.Node, d int, what ...any) api.Kid {
	t.Helper()
	k, err := node.Say(n, d)
	if want := says(n); !alike(k, want) || err != api.OK {
		t.Errorf("Say: %+v, error %d, not %+v: %v", k, err, want, what)
	}
	return k
}

// P10.3: the chapter's example, and nodes of each kind with kids.
func TestSayKnown(t *testing.T) {
	box := func(lo, hi api.Row) api.Box { return api.Box{Lo: lo, Hi: hi} }
	a := api.Kid{Sum: digest(1), Box: box(api.Row{1, -9}, api.Row{2, 5}), Live: 2, Size: 3}
	b := api.Kid{Sum: digest(2), Box: box(api.Row{4, 0}, api.Row{4, 7}), Live: 5, Size: 7}
	bare := api.Kid{Sum: digest(3), Size: 4}
	whole := box(api.Row{math.MinInt64, math.MinInt64}, api.Row{math.MaxInt64, math.MaxInt64})
	for i, c := range []struct {
		n    api.Node
		want api.Kid
	}{
		{leaf(api.Row{1, 5}, api.Row{2, 3}), api.Kid{Box: box(api.Row{1, 3}, api.Row{2, 5}), Live: 2, Size: 2, Key: api.Row{1, 5}}},
		{leaf(api.Row{2, 3}, api.Row{1, 5}), api.Kid{Box: box(api.Row{1, 3}, api.Row{2, 5}), Live: 2, Size: 2, Key: api.Row{2, 3}}},
		{leaf(api.Row{7, 7}), api.Kid{Box: box(api.Row{7, 7}, api.Row{7, 7}), Live: 1, Size: 1, Key: api.Row{7, 7}}},
		{leaf(whole.Lo, api.Row{0, 0}, whole.Hi), api.Kid{Box: whole, Live: 3, Size: 3, Key: whole.Lo}},
		{fork(live(api.Row{3, 6}), a, b), api.Kid{Box: box(api.Row{1, -9}, api.Row{4, 7}), Live: 8, Size: 11}},
		{fork(dead(api.Row{-3, 60}), a, b), api.Kid{Box: box(api.Row{1, -9}, api.Row{4, 7}), Live: 7, Size: 11}},
		{fork(live(api.Row{-3, 60}), a, bare), api.Kid{Box: box(api.Row{-3, -9}, api.Row{2, 60}), Live: 3, Size: 8}},
		{fork(live(api.Row{-3, 60}), bare, api.Kid{}), api.Kid{Box: box(api.Row{-3, 60}, api.Row{-3, 60}), Live: 1, Size: 5}},
		{fork(dead(api.Row{-3, 60}), api.Kid{}, b), api.Kid{Box: b.Box, Live: 5, Size: 8}},
		{fork(dead(api.Row{-3, 60}), bare, bare), api.Kid{Size: 9}},
		{fork(dead(api.Row{-3, 60}), api.Kid{}, api.Kid{}), api.Kid{Size: 1}},
		{inner(keyed(a, 2, 4), keyed(b, 2, 5)), api.Kid{Box: box(api.Row{1, -9}, api.Row{4, 7}), Live: 7, Size: 10, Key: row(2, 4)}},
		{inner(keyed(bare, 2, 6), keyed(b, 2, 5), keyed(b, 2, 7)), api.Kid{Box: b.Box, Live: 10, Size: 18, Key: row(2, 6)}},
		{inner(keyed(bare, 2, 6), keyed(bare, 2, 5)), api.Kid{Size: 8, Key: row(2, 6)}},
	} {
		bytes, _ := node.Encode(c.n, 2)
		c.want.Sum = page.Sum(bytes)
		if k, err := node.Say(c.n, 2); !alike(k, c.want) || err != api.OK {
			t.Errorf("%d: %+v, error %d, not %+v", i, k, err, c.want)
		}
	}
}

// P10.3: nodes of each kind and each dimension; of no other dimension they say anything.
func TestSay(t *testing.T) {
	for d := 1; d <= 8; d++ {
		for i, n := range good(d) {
			said(t, n, d, i, d)
			for _, other := range dims {
				if other != d {
					unsaid(t, n, other, i, d, other)
				}
			}
		}
	}
}

// sized tells nodes whose kids have those sizes; a Fork with its own entry has one more.
func sized(d int, live bool, sizes ...int) []api.Node {
	var l []api.Node
	kids := make([]api.Kid, len(sizes))
	for i, size := range sizes {
		kids[i] = keyless(d, int64(i))
		kids[i].Size, kids[i].Live = size, 1
		if !live {
			kids[i] = lifeless(int64(i))
			kids[i].Size = size
		}
		if size == 0 {
			kids[i] = api.Kid{}
		}
	}
	if len(sizes) == 2 {
		l = append(l, fork(dead(row(d, 1)), kids[0], kids[1]))
	}
	for i := range kids {
		kids[i] = keyed(kids[i], d, int64(i))
	}
	return append(l, inner(kids...))
}

// P10.3, P10.4: sizes that are together just as many as may be, and one more.
func TestSizes(t *testing.T) {
	const most = 1 << 20
	for _, d := range []int{1, 3, 8} {
		for _, alive := range []bool{false, true} {
			for _, sizes := range [][]int{{most - 1, 1}, {1, most - 1}, {most / 2, most / 2}, {most - 3, 2}, {most, most}, {most, 1}, {1, most}, {most - 2, 1}, {most - 2, 2},
				{most - 2, 1, 1}, {1, 1, most - 1}, {most, most, most}, {most / 4, most / 4, most / 4, most / 4}, {most / 4, most / 4, most/4 + 1, most / 4}, {most, most, most, most}, {1, 1, 1, most}} {
				for _, n := range sized(d, alive, sizes...) {
					if !mayBe(n, d) {
						t.Fatalf("%+v may not be", n)
					}
					b := encoded(t, n, d, sizes)
					decoded(t, b, d, n, sizes)
					if k := says(n); k.Size <= most {
						said(t, n, d, sizes)
					} else {
						unsaid(t, n, d, sizes)
						silent(t, n, d, sizes)
					}
				}
			}
		}
	}
	for i, n := range []api.Node{sized(2, true, most-1, 0)[0], sized(2, false, 0, most-1)[0]} {
		if k := said(t, n, 2, i); k.Size != most {
			t.Errorf("size %d", k.Size)
		}
	}
	for i, n := range []api.Node{sized(2, true, most, 0)[0], sized(2, false, 0, most)[0]} {
		unsaid(t, n, 2, i)
		silent(t, n, 2, i)
	}
}

// silent asks for a node that says nothing, whose page is there.
func silent(t *testing.T, n api.Node, d int, what ...any) {
	t.Helper()
	s := page.New()
	k := says(n)
	s.Put(bytesOf(n))
	ungot(t, s, k, d, what...)
	for _, size := range []int{0, 1, 1 << 20} {
		ungot(t, s, turn(k, func(k *api.Kid) { k.Size = size }), d, what...)
	}
	ungot(t, s, api.Kid{Sum: k.Sum}, d, what...)
	ungot(t, s, api.Kid{}, d, what...)
}

// P10.2, P10.3: live entries that are as many as all, where there are as many as may be.
func TestSayFullOfLife(t *testing.T) {
	k := keyless(2, 1)
	k.Live, k.Size = 1<<19, 1<<19
	if got := said(t, inner(keyed(k, 2, 1), keyed(k, 2, 2)), 2); got.Live != 1<<20 || got.Size != 1<<20 {
		t.Errorf("%+v", got)
	}
	k.Live, k.Size = 1<<20, 1<<20
	decoded(t, encoded(t, fork(dead(row(2, 1)), k, api.Kid{}), 2), 2, fork(dead(row(2, 1)), k, api.Kid{}))
	decoded(t, encoded(t, inner(keyed(k, 2, 1), keyed(k, 2, 2)), 2), 2, inner(keyed(k, 2, 1), keyed(k, 2, 2)))
	k.Live, k.Size = 1<<20-1, 1<<20-1
	if got := said(t, fork(live(row(2, 1)), api.Kid{}, k), 2); got.Live != 1<<20 || got.Size != 1<<20 {
		t.Errorf("%+v", got)
	}
}

// P10.3: nodes of chance, against the chapter's words.
func TestSayByChance(t *testing.T) {
	random := rand.New(rand.NewSource(3))
	for range 5000 {
		d := 1 + random.Intn(8)
		n := anyNode(random, d)
		said(t, n, d, n)
	}
}
