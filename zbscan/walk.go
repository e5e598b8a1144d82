package zbscan

import (
	"slices"

	"indenture/api"
	"indenture/morton"
	"indenture/node"
	"indenture/page"
)

// walk is a way through a tree by codes, from the first row on or back from the last one: what of the tree is left. It never goes back up, so no node is got twice.
type walk struct {
	store *page.Store
	dims  int
	back  bool
	trees []api.Kid   // that weren't looked into, the next one last
	rows  []api.Entry // of the Leaf that was got last, the next one last
}

// begin looks into a tree's root, whatever row will be sought.
func (w *walk) begin(k api.Kid) api.Errno {
	if node.Empty(k) {
		return api.OK
	}
	return w.open(k)
}

// open looks into a tree that isn't empty.
func (w *walk) open(k api.Kid) api.Errno {
	n, err := node.Get(w.store, k, w.dims)
	if err != api.OK || n.Kind == api.Fork {
		return api.ErrForm
	}
	if !w.back {
		slices.Reverse(n.Rows)
		slices.Reverse(n.Kids)
	}
	w.rows = n.Rows
	w.trees = append(w.trees, n.Kids...)
	return api.OK
}

// first tells the first row that is left and isn't ahead of a point. All rows of a tree are ahead of the Key of the tree behind it.
func (w *walk) first(p api.Row) (api.Row, bool, api.Errno) {
	fits := func(r api.Row) bool { return !morton.Ahead(r, p) }
	none := func() bool {
		behind := len(w.trees) - 2
		return behind >= 0 && !morton.Ahead(p, w.trees[behind].Key)
	}
	return w.to(fits, none)
}

// last tells the last row that is left and isn't behind a point. No row of a tree is ahead of its Key.
func (w *walk) last(p api.Row) (api.Row, bool, api.Errno) {
	fits := func(r api.Row) bool { return !morton.Ahead(p, r) }
	none := func() bool { return !fits(w.trees[len(w.trees)-1].Key) }
	return w.to(fits, none)
}

// to goes on to the next row that fits, and tells it; it stays left. Where the next tree has none, as a closure tells, it isn't looked into.
func (w *walk) to(fits func(r api.Row) bool, none func() bool) (api.Row, bool, api.Errno) {
	for {
		for ; len(w.rows) > 0; w.rows = w.rows[:len(w.rows)-1] {
			if r := w.rows[len(w.rows)-1].Row; fits(r) {
				return r, true, api.OK
			}
		}
		for len(w.trees) > 0 && none() {
			w.trees = w.trees[:len(w.trees)-1]
		}
		if len(w.trees) == 0 {
			return nil, false, api.OK
		}
		next := w.trees[len(w.trees)-1]
		w.trees = w.trees[:len(w.trees)-1]
		if err := w.open(next); err != api.OK {
			return nil, false, err
		}
	}
}
