package prune

import (
	"indenture/api"
	"indenture/codec"
	"indenture/node"
)

// noPart is what a reading is given up by, however deep it is.
type noPart struct{}

// Encode tells a part's bytes.
func Encode(p api.Part, d int) ([]byte, api.Errno) {
	if !Right(p, d) {
		return nil, api.ErrArg
	}
	var w codec.Writer
	write(&w, p, d)
	return w.Bytes(), api.OK
}

// Size tells how many bytes Encode has.
func Size(p api.Part, d int) int {
	b, _ := Encode(p, d)
	return len(b)
}

// Decode tells the part of d dimensions whose bytes b is. What it reads is read in the one way there is, so no other part has these bytes.
func Decode(b []byte, d int) (p api.Part, err api.Errno) {
	defer func() {
		fault := recover()
		if _, ok := fault.(noPart); ok {
			p, err = api.Part{}, api.ErrForm
		} else if fault != nil {
			panic(fault)
		}
	}()
	r, next := codec.New(b), 0
	number := func() int {
		next++
		return next
	}
	p = read(r, d, 1, number)
	refuse(r.End() != api.OK)
	return p, api.OK
}

func write(w *codec.Writer, p api.Part, d int) {
	w.Truth(p.Open)
	if !p.Open {
		return
	}
	b, _ := node.Encode(p.Node, d)
	w.Text(b)
	for _, below := range p.Parts {
		write(w, below, d)
	}
}

// read reads a part, and all below it. It goes no deeper than a part may be, and reads no more open ones, as bytes may say anything.
func read(r *codec.Reader, d, deep int, number func() int) api.Part {
	if !r.Truth() {
		return api.Part{}
	}
	refuse(deep > mostDeep || number() > mostOpen)
	n, err := node.Decode(r.Text(api.MaxBytes), d)
	refuse(err != api.OK)
	p := api.Part{Open: true, Node: n, Parts: make([]api.Part, len(n.Kids))}
	for i, k := range n.Kids {
		p.Parts[i] = read(r, d, deep+1, number)
		refuse(p.Parts[i].Open && node.Empty(k))
	}
	return p
}

// refuse gives a reading up, if it may not be.
func refuse(wrong bool) {
	if wrong {
		panic(noPart{})
	}
}
