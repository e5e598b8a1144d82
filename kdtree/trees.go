package kdtree

import (
	"cmp"
	"slices"

	"indenture/api"
	"indenture/node"
	"indenture/page"
)

// trees is what one call is about: the trees of one store, of points of so many numbers.
type trees struct {
	store *page.Store
	dims  int
}

// takes tells whether there are points of so many numbers, and all rows are.
func (t trees) takes(l ...api.Row) bool {
	wrong := func(r api.Row) bool { return len(r) != t.dims }
	return t.dims >= 1 && t.dims <= api.MaxDims && !slices.ContainsFunc(l, wrong)
}

// order tells how points stand to one another in the order at a depth.
func (t trees) order(depth int) func(a, b api.Row) int {
	first := depth % t.dims
	return func(a, b api.Row) int {
		if c := cmp.Compare(a[first], b[first]); c != 0 {
			return c
		}
		return slices.Compare(a, b)
	}
}

// sort turns a list into the order at a depth.
func (t trees) sort(l []api.Row, depth int) { slices.SortFunc(l, t.order(depth)) }

// twice tells whether two rows of a sorted list are the same.
func twice(l []api.Row) bool {
	for i := range len(l) - 1 {
		if slices.Equal(l[i], l[i+1]) {
			return true
		}
	}
	return false
}

// lay tells the tree that is laid of rows at a depth. It sorts the list that it is given.
func (t trees) lay(l []api.Row, depth int) api.Kid {
	if len(l) == 0 {
		return api.Kid{}
	}
	t.sort(l, depth)
	middle := len(l) / 2
	first, second := t.lay(l[:middle], depth+1), t.lay(l[middle+1:], depth+1)
	return t.put(fork(api.Entry{Row: l[middle], Live: true}, first, second))
}

// fork tells a Fork of an entry and of two kids.
func fork(e api.Entry, first, second api.Kid) api.Node {
	return api.Node{Kind: api.Fork, Rows: []api.Entry{e}, Kids: []api.Kid{first, second}}
}

// put keeps a Fork, and tells what it says. Each one that comes here may be, and has no more than MaxBytes entries, so it isn't refused.
func (t trees) put(n api.Node) api.Kid {
	k, _ := node.Put(t.store, n, t.dims)
	return k
}

// get tells the Fork of which a kid speaks, and of the empty tree the zero Node. Kids are handed on by pointers here and in the calls that go down, so that these have little on the stack: of Forks that anybody made up to MaxBytes may stand one below the other.
func (t trees) get(k *api.Kid) (api.Node, api.Errno) {
	if node.Empty(*k) {
		return api.Node{}, api.OK
	}
	n, err := node.Get(t.store, *k, t.dims)
	if err != api.OK || n.Kind != api.Fork {
		return api.Node{}, api.ErrForm
	}
	return n, api.OK
}

// each hands the entry of each Fork of a tree to a function, and how deep the Fork stands, the root as deep as is given.
func (t trees) each(k *api.Kid, depth int, do func(e api.Entry, depth int)) api.Errno {
	n, err := t.get(k)
	for _, e := range n.Rows {
		do(e, depth)
	}
	for i := range n.Kids {
		if err == api.OK {
			err = t.each(&n.Kids[i], depth+1, do)
		}
	}
	return err
}

// rows tells all live rows of a tree.
func (t trees) rows(k api.Kid) ([]api.Row, api.Errno) {
	var l []api.Row
	err := t.each(&k, 0, func(e api.Entry, _ int) {
		if e.Live {
			l = append(l, e.Row)
		}
	})
	return l, err
}
