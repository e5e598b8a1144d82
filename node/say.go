package node

import (
	"slices"

	"indenture/api"
	"indenture/box"
	"indenture/page"
)

// Say tells what a node says.
func Say(n api.Node, d int) (api.Kid, api.Errno) { return say(n, d, page.Sum) }

// Put keeps a node's page in a store, and tells what the node says.
func Put(s *page.Store, n api.Node, d int) (api.Kid, api.Errno) { return say(n, d, s.Put) }

// Get tells the node of which a kid speaks. A page that is there may still be another thing's, or of a node that says something else.
func Get(s *page.Store, k api.Kid, d int) (api.Node, api.Errno) {
	text, err := s.Get(k.Sum)
	if err != api.OK {
		return api.Node{}, api.ErrForm
	}
	n, err := Decode(text, d)
	if err != api.OK {
		return api.Node{}, api.ErrForm
	}
	said, err := Say(n, d)
	if err != api.OK || !Same(said, k) {
		return api.Node{}, api.ErrForm
	}
	return n, api.OK
}

// say tells what a node says. Its page's sum comes last, and is told by a function, since that of Put keeps the page, which must not be where there is an error.
func say(n api.Node, d int, sum func(text []byte) api.Digest) (api.Kid, api.Errno) {
	text, err := Encode(n, d)
	if err != api.OK {
		return api.Kid{}, err
	}
	k := tally(n)
	if k.Size > api.MaxBytes {
		return api.Kid{}, api.ErrArg
	}
	k.Sum = sum(text)
	return k, api.OK
}

// tally tells what a node that may be says, but its page's sum. The box is gathered from none on: the hull of none and of another one is the other one.
func tally(n api.Node) api.Kid {
	k := api.Kid{Size: len(n.Rows), Key: key(n)}
	for _, e := range n.Rows {
		if e.Live {
			k.Live++
			k.Box = box.Hull(k.Box, box.Of(e.Row))
		}
	}
	for _, below := range n.Kids {
		k.Live += below.Live
		k.Size += below.Size
		k.Box = box.Hull(k.Box, below.Box)
	}
	return k
}

// key tells the row whose code is the first one of a node of a Z-order tree, in memory of its own.
func key(n api.Node) api.Row {
	switch n.Kind {
	case api.Leaf:
		return slices.Clone(n.Rows[0].Row)
	case api.Inner:
		return slices.Clone(n.Kids[0].Key)
	}
	return nil
}
