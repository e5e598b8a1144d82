package zbtree

import (
	"slices"

	"indenture/api"
	"indenture/morton"
)

// fewest is how many items a node must have that isn't the root.
const fewest = 2

// step is a node on a way to a row, and which item the way goes on to: of an Inner a kid, of a Leaf the row, or the place to which it would come.
type step struct {
	node api.Node
	at   int
}

// way is all nodes from a tree's root down to the Leaf in which a row stands, or would come; of the empty tree a Leaf without rows.
type way []step

// way tells the way to a row.
func (t trees) way(k api.Kid, p api.Row) (way, api.Errno) {
	if !t.takes(p) {
		return nil, api.ErrArg
	}
	var w way
	for {
		n, err := t.get(k)
		if err != api.OK {
			return nil, err
		}
		at := place(n, p)
		w = append(w, step{node: n, at: at})
		if n.Kind == api.Leaf {
			return w, api.OK
		}
		k = n.Kids[at]
	}
}

// place tells to which item of a node the way to a row goes on: of a Leaf to the first row that isn't ahead, or behind the last one; of an Inner to the last kid whose Key isn't behind the row, to the first one, if there is none.
func place(n api.Node, p api.Row) int {
	at := 0
	switch n.Kind {
	case api.Leaf:
		for at < len(n.Rows) && morton.Ahead(n.Rows[at].Row, p) {
			at++
		}
	case api.Inner:
		at = len(n.Kids) - 1
		for at > 0 && morton.Ahead(p, n.Kids[at].Key) {
			at--
		}
	}
	return at
}

// leaf tells the Leaf at the end of a way.
func (w way) leaf() *step { return &w[len(w)-1] }

// has tells whether the row to which a way goes stands there.
func (w way) has(p api.Row) bool {
	rows, at := w.leaf().node.Rows, w.leaf().at
	return at < len(rows) && slices.Equal(rows[at].Row, p)
}

// join takes each node on a way that has too few items, but the root, together with its neighbour, from below. No page is put yet, since a neighbour may be one that can't be got.
func (t trees) join(w way) api.Errno {
	for i := len(w) - 1; i > 0 && items(w[i].node) < fewest; i-- {
		if err := t.neighbour(&w[i-1], &w[i]); err != api.OK {
			return err
		}
		if items(w[i].node) > api.MaxFan { // it will be cut into two again, so the Inner above keeps as many kids as it has
			return api.OK
		}
	}
	return api.OK
}

// neighbour puts to a node all items of its neighbour, which is no kid of the Inner above any more. A neighbour of the other kind is no node of such a tree.
func (t trees) neighbour(above, below *step) api.Errno {
	left := max(above.at-1, 0) // both stand at left and left + 1
	other := left
	if above.at == left {
		other++
	}
	n, err := t.get(above.node.Kids[other])
	if err != api.OK || n.Kind != below.node.Kind {
		return api.ErrForm
	}
	if other == left {
		below.node = both(n, below.node)
		below.at += items(n)
	} else {
		below.node = both(below.node, n)
	}
	above.node.Kids = slices.Delete(above.node.Kids, other, other+1)
	above.at = left
	return api.OK
}

// both tells a node of the items of two ones of its kind.
func both(a, b api.Node) api.Node {
	return api.Node{Kind: a.Kind, Rows: slices.Concat(a.Rows, b.Rows), Kids: slices.Concat(a.Kids, b.Kids)}
}

// raise puts a way's nodes, from below, each cut into two, if it has too many items, and tells the whole tree.
func (t trees) raise(w way) api.Kid {
	n := w.leaf().node
	for _, above := range slices.Backward(w[:len(w)-1]) {
		above.node.Kids = slices.Replace(above.node.Kids, above.at, above.at+1, t.keep(n)...)
		n = above.node
	}
	return t.top(n)
}
