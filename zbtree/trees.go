package zbtree

import (
	"slices"

	"indenture/api"
	"indenture/node"
	"indenture/page"
)

// trees is what one call is about: the trees of one store, of points of so many numbers.
type trees struct {
	store *page.Store
	dims  int
}

// takes tells whether there are points of so many numbers, and all rows are.
func (t trees) takes(l ...api.Row) bool {
	wrong := func(r api.Row) bool { return len(r) != t.dims }
	return t.dims >= 1 && t.dims <= api.MaxDims && !slices.ContainsFunc(l, wrong)
}

// get tells the node of which a kid speaks, and of the empty tree a Leaf without rows.
func (t trees) get(k api.Kid) (api.Node, api.Errno) {
	if node.Empty(k) {
		return leafOf(nil), api.OK
	}
	n, err := node.Get(t.store, k, t.dims)
	if err != api.OK || n.Kind == api.Fork {
		return api.Node{}, api.ErrForm
	}
	return n, api.OK
}

// keep puts a node's items, cut into groups, each of which is a node of its kind, and tells what these say. Each node that comes here has what it must have, but for how many items, and its tree has no more than MaxBytes rows; so none is refused.
func (t trees) keep(n api.Node) []api.Kid {
	var kids []api.Kid
	for _, group := range groups(n) {
		k, _ := node.Put(t.store, group, t.dims)
		kids = append(kids, k)
	}
	return kids
}

// top puts a root, which may have any number of items, and tells the whole tree: what it is cut into becomes the kids of other Inners above it; an Inner with one kid gives way to it, a Leaf without rows to the empty tree.
func (t trees) top(n api.Node) api.Kid {
	kids := n.Kids
	if n.Kind == api.Leaf {
		kids = t.keep(n)
	}
	for len(kids) > 1 {
		kids = t.keep(api.Node{Kind: api.Inner, Kids: kids})
	}
	if len(kids) == 0 {
		return api.Kid{}
	}
	return kids[0]
}

// leafOf tells a Leaf of rows, of which there may be any number.
func leafOf(rows []api.Row) api.Node {
	n := api.Node{Kind: api.Leaf}
	for _, r := range rows {
		n.Rows = append(n.Rows, api.Entry{Row: r, Live: true})
	}
	return n
}

// items tells how many items a node has, which are rows alone, or kids alone.
func items(n api.Node) int { return len(n.Rows) + len(n.Kids) }

// groups tells a node's items, cut into groups, each as a node of its kind.
func groups(n api.Node) []api.Node {
	var l []api.Node
	switch n.Kind {
	case api.Leaf:
		for _, rows := range cut(n.Rows) {
			l = append(l, api.Node{Kind: api.Leaf, Rows: rows})
		}
	case api.Inner:
		for _, kids := range cut(n.Kids) {
			l = append(l, api.Node{Kind: api.Inner, Kids: kids})
		}
	}
	return l
}

// cut tells a list in groups: as few as hold it with at most MaxFan in each, as alike in length as may be, the longer ones first.
func cut[T any](list []T) [][]T {
	var groups [][]T
	for left := up(len(list), api.MaxFan); left > 0; left-- {
		n := up(len(list), left)
		groups = append(groups, list[:n])
		list = list[n:]
	}
	return groups
}

// up tells how often a number has another one, a part of it counted as a whole.
func up(n, by int) int { return (n + by - 1) / by }
