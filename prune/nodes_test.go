package prune_test

import (
	"math/rand"
	"slices"
	"testing"

	"indenture/api"
	"indenture/prune"
)

// counted holds against a part what Nodes, Count and Deep must tell of it.
func counted(t *testing.T, p api.Part, nodes []api.Node, deep int, what ...any) {
	t.Helper()
	if l := prune.Nodes(p); !slices.EqualFunc(l, nodes, alikeNodes) {
		t.Errorf("Nodes: %d, not the %d: %v", len(l), len(nodes), what)
	}
	if n := prune.Count(p); n != len(nodes) {
		t.Errorf("Count: %d, not %d: %v", n, len(nodes), what)
	}
	if n := prune.Deep(p); n != deep {
		t.Errorf("Deep: %d, not %d: %v", n, deep, what)
	}
}

// P15.2: known parts: closed ones, one open one, and several, one below another and beside it.
func TestNodesKnown(t *testing.T) {
	a, b, c, d, e := leaf(row(1, 1)), fork(live(row(1, 2)), kid(1, 1), kid(1, 2)), inner(keyed(1, 1), keyed(1, 2), keyed(1, 3)), fork(dead(row(1, 3)), api.Kid{}, kid(1, 4)), leaf(row(1, 4), row(1, 5))
	for i, x := range []struct {
		part  api.Part
		nodes []api.Node
		deep  int
	}{
		{api.Part{}, nil, 0},
		{api.Part{Parts: []api.Part{}}, nil, 0},
		{shut(a), []api.Node{a}, 1},
		{shut(b), []api.Node{b}, 1},
		{opened(b, shut(a), api.Part{}), []api.Node{b, a}, 2},
		{opened(b, api.Part{}, shut(a)), []api.Node{b, a}, 2},
		{opened(b, shut(a), shut(e)), []api.Node{b, a, e}, 2},
		{opened(b, shut(e), shut(a)), []api.Node{b, e, a}, 2},
		{opened(b, opened(d, api.Part{}, shut(e)), shut(a)), []api.Node{b, d, e, a}, 3},
		{opened(b, shut(a), opened(d, api.Part{}, shut(e))), []api.Node{b, a, d, e}, 3},
		{opened(c, opened(d, api.Part{}, shut(e)), opened(b, shut(a), shut(d)), opened(c, shut(e), api.Part{}, opened(d, api.Part{}, shut(a)))), []api.Node{c, d, e, b, a, d, c, e, d, a}, 4},
		{opened(c, opened(b, opened(b, shut(a), shut(e)), shut(c)), shut(d), shut(e)), []api.Node{c, b, b, a, e, c, d, e}, 4},
		{opened(c, shut(a), opened(b, api.Part{}, shut(d)), shut(a)), []api.Node{c, a, b, d, a}, 3},
		{opened(b, shut(a), shut(a)), []api.Node{b, a, a}, 2},
	} {
		counted(t, x.part, x.nodes, x.deep, i)
	}
}

// P15.2: parts that may be, of each kind and of chance.
func TestNodes(t *testing.T) {
	for d := 1; d <= 8; d++ {
		for i, p := range good(d) {
			counted(t, p, nodesOf(p), deepOf(p), i, d)
		}
	}
	random := rand.New(rand.NewSource(1))
	for range 5000 {
		p := anyPart(random, 1+random.Intn(8), 1+random.Intn(7))
		counted(t, p, nodesOf(p), deepOf(p), p)
	}
}

// P15.2: each form of few open ones has its order.
func TestNodesOfForms(t *testing.T) {
	for count := range 6 {
		for i, p := range forms(count) {
			counted(t, p, nodesOf(p), deepOf(p), count, i)
		}
	}
}

// forms tells all parts of so many open ones whose nodes have three kids, each node with another first Key.
func forms(count int) []api.Part {
	if count == 0 {
		return []api.Part{{}}
	}
	var l []api.Part
	for one := range count {
		for two := range count - one {
			for _, a := range forms(one) {
				for _, b := range forms(two) {
					for _, c := range forms(count - 1 - one - two) {
						l = append(l, over(1, int64(10*len(l)+count), a, b, c))
					}
				}
			}
		}
	}
	return l
}

// P15.2: open ones whose nodes may not be, or that have other Parts than their nodes have kids, or one where the kid is the empty tree, count like others.
func TestNodesOfWrongParts(t *testing.T) {
	one := shut(leaf(row(1, 1)))
	for i, p := range []api.Part{
		{Open: true}, {Open: true, Parts: make([]api.Part, 3)}, {Open: true, Node: api.Node{Kind: 9}}, opened(leaf(row(1, 1)), one, api.Part{}, one), opened(api.Node{}, one),
		opened(fork(live(row(1, 1)), api.Kid{}, api.Kid{}), one, one), opened(fork(live(row(1, 1)), kid(1, 1), kid(1, 2)), one), opened(fork(live(row(1, 1)), kid(1, 1), kid(1, 2)), one, one, one, one, one, one),
		{Open: true, Parts: slices.Repeat([]api.Part{one, {}, {Open: true, Parts: []api.Part{{}, {Open: true}}}}, 100)},
	} {
		counted(t, p, nodesOf(p), deepOf(p), i)
	}
	for d := 1; d <= 8; d++ {
		for i, wrong := range wrongNodes(d) {
			for _, p := range good(d) {
				for at := range countOf(p) {
					bad := turned(p, at, func(p *api.Part) { p.Node = wrong })
					counted(t, bad, nodesOf(bad), deepOf(bad), i, at, d)
				}
			}
		}
	}
}

// P15.2: 4096 open ones and more, and parts 64 deep and deeper, are gone through to their end.
func TestNodesBeyond(t *testing.T) {
	for _, count := range []int{4095, 4096, 4097, 20000} {
		for i, p := range []api.Part{sized(1, count, 2), sized(1, count, 3), sized(1, count, 4), bushy(1, count, 64)} {
			counted(t, p, nodesOf(p), deepOf(p), count, i)
		}
	}
	for _, deep := range []int{63, 64, 65, 66, 5000} {
		for at := range 3 {
			p := chain(1, deep, 3, at)
			if deepOf(p) != deep || countOf(p) != deep {
				t.Fatalf("%d open ones, %d deep, not %d", countOf(p), deepOf(p), deep)
			}
			counted(t, p, nodesOf(p), deep, deep, at)
		}
	}
}
