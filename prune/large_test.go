package prune_test

import (
	"runtime/debug"
	"testing"

	"indenture/api"
	"indenture/prune"
)

// P15.1 to P15.4: parts that may not be, far deeper than those that may be, are gone through to their end. What the stack may have is cut with the share of the rows that there may be.
func TestDeep(t *testing.T) {
	const levels = api.MaxBytes / 8
	defer debug.SetMaxStack(debug.SetMaxStack(1000000000 / 32))
	n := fork(live(row(1, 1)), kid(1, 1), kid(1, 2))
	for at := range 2 {
		p := api.Part{}
		for range levels {
			parts := make([]api.Part, 2)
			parts[at] = p
			p = opened(n, parts...)
		}
		refused(t, p, 1, at)
		if l, count, deep := len(prune.Nodes(p)), prune.Count(p), prune.Deep(p); l != levels || count != levels || deep != levels {
			t.Errorf("%d nodes, %d open ones, %d deep", l, count, deep)
		}
		for _, length := range []int{0, 1, 64, levels - 1, levels, levels + 1} {
			if got := prune.Count(prune.Close(p, all(length))); got != min(length, levels) {
				t.Errorf("%d stay, not %d", got, min(length, levels))
			}
		}
		keep := all(levels)
		keep[levels/2] = false
		if got := prune.Deep(prune.Close(p, keep)); got != levels/2 {
			t.Errorf("%d deep, not %d", got, levels/2)
		}
	}
}

// P15.1 to P15.4: an open part with as many Parts as there may be rows.
func TestWide(t *testing.T) {
	const wide = api.MaxBytes
	p := opened(leaf(row(1, 1)), make([]api.Part, wide)...)
	for i := range p.Parts {
		if i%2 == 1 {
			p.Parts[i] = api.Part{Open: true}
		}
	}
	refused(t, p, 1)
	if l, count, deep := len(prune.Nodes(p)), prune.Count(p), prune.Deep(p); l != wide/2+1 || count != wide/2+1 || deep != 2 {
		t.Errorf("%d nodes, %d open ones, %d deep", l, count, deep)
	}
	keep := all(wide / 2)
	keep[1] = false
	q := prune.Close(p, keep)
	if len(q.Parts) != wide || prune.Count(q) != wide/2-1 || q.Parts[1].Open || q.Parts[wide-1].Open || !q.Parts[3].Open {
		t.Errorf("%d Parts, %d open ones", len(q.Parts), prune.Count(q))
	}
}

// P15.1: the nodes of an open part may be of more rows and kids than there may be: the part may not be.
func TestLargeNodes(t *testing.T) {
	n := api.Node{Kind: api.Leaf, Rows: make([]api.Entry, api.MaxBytes)}
	for i := range n.Rows {
		n.Rows[i] = live(api.Row{1})
	}
	refused(t, opened(n), 1)
	n = api.Node{Kind: api.Inner, Kids: make([]api.Kid, 1<<16)}
	for i := range n.Kids {
		n.Kids[i] = keyed(1, 1)
	}
	refused(t, opened(n), 1)
	refused(t, shut(n), 1)
}
