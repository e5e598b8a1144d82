package node_test

import (
	"bytes"
	"math/rand"
	"testing"

	"indenture/api"
	"indenture/node"
	"indenture/page"
)

// put puts a node, of which its page must be kept then, and what it says told.
func put(t *testing.T, s *page.Store, n api.Node, d int, what ...any) api.Kid {
	t.Helper()
	k, err := node.Put(s, n, d)
	if want := says(n); !alike(k, want) || err != api.OK {
		t.Errorf("Put: %+v, error %d, not %+v: %v", k, err, want, what)
	}
	if b, err := s.Get(k.Sum); !bytes.Equal(b, bytesOf(n)) || err != api.OK {
		t.Errorf("its page: %d, error %d: %v", b, err, what)
	}
	return k
}

// got asks for a node that is there.
func got(t *testing.T, s *page.Store, k api.Kid, d int, want api.Node, what ...any) {
	t.Helper()
	if n, err := node.Get(s, k, d); !alikeNodes(n, want) || err != api.OK {
		t.Errorf("Get: %+v, error %d, not %+v: %v", n, err, want, what)
	}
}

// P10.4: nodes of each kind in one store, each once; all of them are got, by no other kid, and of no other dimension.
func TestPutGet(t *testing.T) {
	for d := 1; d <= 8; d++ {
		s := page.New()
		for i, n := range good(d) {
			ungot(t, s, says(n), d, i, d)
			k := put(t, s, n, d, i, d)
			put(t, s, copyNode(n), d, i, d)
			if s.Len() != i+1 {
				t.Errorf("%d pages of %d nodes", s.Len(), i+1)
			}
			got(t, s, k, d, n, i, d)
		}
		for i, n := range good(d) {
			got(t, s, says(n), d, n, i, d)
			for _, o := range others(says(n)) {
				ungot(t, s, o.kid, d, i, o.what)
			}
			for _, other := range dims {
				if other != d {
					ungot(t, s, says(n), other, i, d, other)
				}
			}
		}
		if s.Len() != len(good(d)) {
			t.Errorf("%d pages at the end", s.Len())
		}
	}
}

// P10.4: the zero store, too.
func TestZeroStore(t *testing.T) {
	var s page.Store
	n := leaf(row(2, 1), row(2, 2))
	ungot(t, &s, says(n), 2)
	ungot(t, &s, api.Kid{}, 2)
	got(t, &s, put(t, &s, n, 2), 2, n)
}

// P10.4: a kid that says what another node says, with this node's sum, and one that says what this one does, with another sum.
func TestGetBySum(t *testing.T) {
	for _, d := range []int{1, 2, 8} {
		s := page.New()
		nodes := good(d)
		for _, n := range nodes {
			put(t, s, n, d)
		}
		for i, n := range nodes {
			for j, other := range nodes {
				k := says(n)
				k.Sum = says(other).Sum
				want := says(other)
				if alike(k, want) {
					got(t, s, k, d, other, i, j)
				} else {
					ungot(t, s, k, d, i, j)
				}
			}
			k := says(n)
			k.Sum = digest(1234)
			ungot(t, s, k, d, i)
			k.Sum = api.Digest{}
			ungot(t, s, k, d, i)
		}
	}
}

// P10.4: a kid that isn't the one that the node says in its box, its Key or its counts, though all of it may be.
func TestGetUnlike(t *testing.T) {
	s := page.New()
	a, b := keyless(2, 1), keyless(2, 2)
	f := fork(live(api.Row{3, 3}), a, b)
	k := put(t, s, f, 2)
	wide := turn(k, func(k *api.Kid) { k.Box.Lo[0]-- })
	tight := turn(k, func(k *api.Kid) { k.Box.Lo[0]++ })
	ungot(t, s, wide, 2)
	ungot(t, s, tight, 2)
	ungot(t, s, keyed(k, 2, 1), 2)
	ungot(t, s, turn(k, func(k *api.Kid) { k.Live, k.Box = 0, api.Box{} }), 2)
	in := inner(keyed(a, 2, 1), keyed(b, 2, 2))
	k = put(t, s, in, 2)
	ungot(t, s, turn(k, func(k *api.Kid) { k.Key = nil }), 2)
	ungot(t, s, keyed(k, 2, 2), 2)
	got(t, s, keyed(k, 2, 1), 2, in)
	tomb := fork(dead(api.Row{3, 3}), api.Kid{}, api.Kid{})
	k = put(t, s, tomb, 2)
	ungot(t, s, turn(k, func(k *api.Kid) { k.Live, k.Box = 1, api.Box{Lo: api.Row{3, 3}, Hi: api.Row{3, 3}} }), 2)
	k.Box, k.Key = api.Box{Lo: api.Row{}, Hi: api.Row{}}, api.Row{}
	got(t, s, k, 2, tomb)
}

// P10.4: pages that are no node's: other texts, and nodes' bytes that are cut or longer; the empty one.
func TestGetOtherPages(t *testing.T) {
	for _, n := range good(2) {
		b := bytesOf(n)
		for i, text := range [][]byte{nil, []byte("ab"), b[1:], b[:len(b)-1], append(bytes.Clone(b), 0), page.Preimage(b)} {
			s := page.New()
			k := says(n)
			k.Sum = s.Put(text)
			ungot(t, s, k, 2, i)
		}
	}
}

// P10.4: what is given up is there no more, and can be put again.
func TestGetGivenUp(t *testing.T) {
	s := page.New()
	n, other := leaf(row(3, 1)), leaf(row(3, 2))
	k, l := put(t, s, n, 3), put(t, s, other, 3)
	s.Keep([]api.Digest{l.Sum})
	ungot(t, s, k, 3)
	got(t, s, l, 3, other)
	put(t, s, n, 3)
	got(t, s, k, 3, n)
}

// P10.4, P10.5: trees of nodes of chance are got as they were put, from the root down.
func TestTrees(t *testing.T) {
	random := rand.New(rand.NewSource(4))
	for range 200 {
		d := 1 + random.Intn(8)
		s := page.New()
		k, below := tree(t, random, s, d, random.Intn(5))
		held(t, s, k, d, below)
	}
}

// placed is a node that was put, with what it says, and what was put of its kids.
type placed struct {
	node api.Node
	kids []placed
}

// tree puts a tree of so many levels at most.
func tree(t *testing.T, random *rand.Rand, s *page.Store, d, levels int) (api.Kid, placed) {
	n := anyNode(random, d)
	below := make([]placed, len(n.Kids))
	for i, old := range n.Kids {
		if none(old) || levels == 0 {
			n.Kids[i].Size = min(old.Size, 100) // so that all together are no more than may be
			n.Kids[i].Live = min(old.Live, n.Kids[i].Size)
			continue
		}
		n.Kids[i], below[i] = tree(t, random, s, d, levels-1)
		n.Kids[i].Key = old.Key
	}
	return put(t, s, n, d), placed{n, below}
}

// held gets a tree from its root down.
func held(t *testing.T, s *page.Store, k api.Kid, d int, want placed) {
	t.Helper()
	got(t, s, k, d, want.node)
	for i, kid := range want.node.Kids {
		if want.kids[i].node.Kind == 0 {
			continue
		}
		kid.Key = says(want.kids[i].node).Key
		held(t, s, kid, d, want.kids[i])
	}
}
