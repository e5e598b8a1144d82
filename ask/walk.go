package ask

import (
	"cmp"
	"slices"

	"indenture/api"
	"indenture/box"
	"indenture/dist"
	"indenture/node"
	"indenture/page"
)

// tree is one that is open to a query, with the least key and the least id of what it may have for it.
type tree struct {
	kid api.Kid
	key api.Dist
	id  int64
}

// walk is a way through a tree to the answer to a query.
type walk struct {
	store *page.Store
	dims  int
	known known
	trees []tree // that are to be looked into, the next one last
	got   int    // how many nodes were got
}

// through looks into a tree and all below it that must be looked into, and hands each live row that it comes to, to a function.
func (w *walk) through(k api.Kid, look func(r api.Row)) api.Errno {
	w.meet(k)
	for len(w.trees) > 0 {
		next := w.trees[len(w.trees)-1].kid
		w.trees = w.trees[:len(w.trees)-1]
		if w.known.past(next) {
			continue
		}
		n, err := node.Get(w.store, next, w.dims)
		if err != api.OK {
			return err
		}
		w.got++
		for _, e := range n.Rows {
			if e.Live {
				look(e.Row)
			}
		}
		w.meet(n.Kids...)
	}
	return api.OK
}

// meet takes the kids of one node. Those that are open come ahead of all that was met so far, and are asked once more when it is their turn, since more is known then.
func (w *walk) meet(kids ...api.Kid) {
	var open []tree
	for _, k := range kids {
		if Open(w.known.query, k) {
			open = append(open, w.place(k))
		} else {
			w.known.whole(k)
		}
	}
	slices.SortStableFunc(open, func(a, b tree) int {
		return cmp.Or(dist.Cmp(a.key, b.key), cmp.Compare(a.id, b.id))
	})
	slices.Reverse(open)
	w.trees = append(w.trees, open...)
}

// place tells a tree that is open with where it stands.
func (w *walk) place(k api.Kid) tree {
	cut, _ := box.Cut(w.known.query.Box, k.Box)
	key, id, _ := box.Least(w.known.query.Order, cut)
	return tree{k, key, id}
}
