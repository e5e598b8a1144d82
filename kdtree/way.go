package kdtree

import (
	"slices"

	"indenture/api"
)

// step is a Fork on a way: what its tree was, its node, and which of its kids the way goes on to.
type step struct {
	kid  api.Kid
	fork api.Node
	side int
}

// way is all Forks from a tree's root down to that of a row. Where the tree has none of it, the last one is a tombstone without kids, in the place where the row would come, whose tree was the empty one.
type way []step

// way tells the way to a row.
func (t trees) way(k api.Kid, p api.Row) (way, api.Errno) {
	if !t.takes(p) {
		return nil, api.ErrArg
	}
	var w way
	if err := t.down(&w, &k, p); err != api.OK {
		return nil, err
	}
	return w, api.OK
}

// down goes on with a way to a row: into a tree whose depth is the way's length.
func (t trees) down(w *way, k *api.Kid, p api.Row) api.Errno {
	on, err := t.meet(w, k, p)
	if on == nil {
		return err
	}
	return t.down(w, on, p)
}

// meet puts the root of a tree to a way, and tells the kid to which the way goes on: none, where it has come to its end, or to an error.
func (t trees) meet(w *way, k *api.Kid, p api.Row) (*api.Kid, api.Errno) {
	n, err := t.get(k)
	if err != api.OK {
		return nil, err
	}
	if n.Kind != api.Fork {
		*w = append(*w, step{fork: fork(api.Entry{Row: p}, api.Kid{}, api.Kid{})})
		return nil, api.OK
	}
	to := step{kid: *k, fork: n}
	c := t.order(len(*w))(p, n.Rows[0].Row)
	if c > 0 {
		to.side = 1
	}
	*w = append(*w, to)
	if c == 0 {
		return nil, api.OK
	}
	return &n.Kids[to.side], api.OK
}

// live tells whether the row at the end of a way is live.
func (w way) live() bool { return w[len(w)-1].fork.Rows[0].Live }

// settle tells what becomes of a way whose row, which wasn't live, is: which Fork is the first one that is heavy (none: behind the last one), and how many entries the whole tree has then. A heavy Fork's tree counts for those above it as it will be laid: of its live rows.
func (w way) settle() (heavy, size int) {
	heavy = len(w)
	more := 0 // how many entries came below
	for i, at := range slices.Backward(w) {
		on, off := at.fork.Kids[at.side].Size+more, at.fork.Kids[1-at.side].Size
		size = on + off + 1
		if max(on, off) > size*2/3+1 {
			heavy, size = i, at.kid.Live+1
		}
		more = size - at.kid.Size
	}
	return heavy, size
}

// turn puts a way whose last row is live from now on, or isn't, and tells the whole tree.
func (t trees) turn(w way, live bool) api.Kid {
	above, last := w[:len(w)-1], w[len(w)-1].fork
	last.Rows[0].Live = live
	return t.raise(above, t.put(last))
}

// raise puts a way's Forks, from below, above a tree that comes to its end, and tells the whole tree.
func (t trees) raise(w way, k api.Kid) api.Kid {
	for _, at := range slices.Backward(w) {
		at.fork.Kids[at.side] = k
		k = t.put(at.fork)
	}
	return k
}
