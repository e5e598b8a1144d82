package node

import (
	"indenture/api"
	"indenture/codec"
)

// Encode tells a node's bytes.
func Encode(n api.Node, d int) ([]byte, api.Errno) {
	if !Right(n, d) {
		return nil, api.ErrArg
	}
	var w codec.Writer
	w.Byte(n.Kind)
	w.Byte(byte(len(n.Rows)))
	for _, e := range n.Rows {
		w.Truth(e.Live)
		w.Row(e.Row)
	}
	w.Byte(byte(len(n.Kids)))
	for _, k := range n.Kids {
		writeKid(&w, k)
	}
	return w.Bytes(), api.OK
}

// Decode tells the node whose bytes b is. Each part has one form, so no other node has these bytes.
func Decode(b []byte, d int) (api.Node, api.Errno) {
	r := codec.New(b)
	n := api.Node{Kind: r.Byte()}
	for range r.Byte() {
		n.Rows = append(n.Rows, readEntry(r))
	}
	for range r.Byte() {
		n.Kids = append(n.Kids, readKid(r))
	}
	if r.End() != api.OK || !Right(n, d) {
		return api.Node{}, api.ErrForm
	}
	return n, api.OK
}

func readEntry(r *codec.Reader) api.Entry {
	var e api.Entry
	e.Live = r.Truth()
	e.Row = r.Row(api.MaxDims)
	return e
}

func writeKid(w *codec.Writer, k api.Kid) {
	w.Digest(k.Sum)
	w.Count(k.Live)
	w.Count(k.Size)
	w.Row(k.Box.Lo)
	w.Row(k.Box.Hi)
	w.Row(k.Key)
}

func readKid(r *codec.Reader) api.Kid {
	var k api.Kid
	k.Sum = r.Digest()
	k.Live = r.Count(api.MaxBytes)
	k.Size = r.Count(api.MaxBytes)
	k.Box.Lo = r.Row(api.MaxDims)
	k.Box.Hi = r.Row(api.MaxDims)
	k.Key = r.Row(api.MaxDims)
	return k
}
