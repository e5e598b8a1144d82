package prune_test

import (
	"bytes"
	"crypto/sha256"
	"encoding/binary"
	"math"
	"math/rand"
	"slices"
	"testing"

	"indenture/api"
	"indenture/node"
	"indenture/prune"
)

// dims: all dimensions that there are, and some on both sides that there aren't.
var dims = []int{math.MinInt, -1, 0, 1, 2, 3, 4, 5, 6, 7, 8, 9, 10, 255, 256, math.MaxInt}

// row tells n numbers, those of unlike salts unlike.
func row(n int, salt int64) api.Row {
	r := make(api.Row, n)
	for i := range r {
		r[i] = (salt+1)*(int64(i)+3) - 20
	}
	return r
}

func live(r api.Row) api.Entry { return api.Entry{Row: r, Live: true} }
func dead(r api.Row) api.Entry { return api.Entry{Row: r} }

func leaf(rows ...api.Row) api.Node {
	n := api.Node{Kind: 2}
	for _, r := range rows {
		n.Rows = append(n.Rows, live(r))
	}
	return n
}

func fork(e api.Entry, first, second api.Kid) api.Node {
	return api.Node{Kind: 1, Rows: []api.Entry{e}, Kids: []api.Kid{first, second}}
}

func inner(kids ...api.Kid) api.Node { return api.Node{Kind: 3, Kids: kids} }

// kid tells a Fork's kid of d dimensions that isn't the empty tree; those of some salts have no live rows.
func kid(d int, salt int64) api.Kid {
	k := api.Kid{Sum: sha256.Sum256(binary.BigEndian.AppendUint64(nil, uint64(salt))), Size: 5 + int(salt&15)}
	if salt%5 != 3 {
		a, b := row(d, salt), row(d, salt+1)
		for i := range a {
			a[i], b[i] = min(a[i], b[i]), max(a[i], b[i])
		}
		k.Live, k.Box = 3+int(salt&1), api.Box{Lo: a, Hi: b}
	}
	return k
}

// keyed tells an Inner's kid.
func keyed(d int, salt int64) api.Kid {
	k := kid(d, salt)
	k.Key = row(d, salt+5)
	return k
}

// opened is an open part.
func opened(n api.Node, parts ...api.Part) api.Part {
	return api.Part{Open: true, Node: n, Parts: parts}
}

// shut is an open part all of whose Parts are closed.
func shut(n api.Node) api.Part { return opened(n, make([]api.Part, len(n.Kids))...) }

// over is an open part with other ones below it: of a Fork, where they are two, or of an Inner of up to four; no kid is the empty tree.
func over(d int, salt int64, parts ...api.Part) api.Part {
	if len(parts) == 2 && salt%2 == 0 {
		return opened(fork(api.Entry{Row: row(d, salt), Live: salt%4 == 0}, kid(d, salt+1), kid(d, salt+2)), parts...)
	}
	n := inner()
	for i := range parts {
		n.Kids = append(n.Kids, keyed(d, salt+int64(i)))
	}
	return opened(n, parts...)
}

// chain tells a part that is so deep, each open one as the number at of the Parts of the one above, which are so many.
func chain(d, deep, fan, at int) api.Part {
	p := api.Part{}
	for i := range deep {
		parts := make([]api.Part, fan)
		parts[at] = p
		p = over(d, int64(i), parts...)
	}
	return p
}

// sized tells a part of just so many open ones, as evenly below one another as may be.
func sized(d, count, fan int) api.Part {
	if count == 0 {
		return api.Part{}
	}
	parts := make([]api.Part, fan)
	for i, rest := 0, count-1; i < fan; i++ {
		share := rest / (fan - i)
		parts[i] = sized(d, share, fan)
		rest -= share
	}
	return over(d, int64(count), parts...)
}

// bushy tells a part of just so many open ones that is just so deep: a chain, at each of whose ends the others hang.
func bushy(d, count, deep int) api.Part {
	p := chain(d, 1, 4, 1)
	rest := count - deep
	for i := 2; i <= deep; i++ {
		share := rest / (deep - i + 1)
		if i < 8 {
			share = 0 // there is no room for many below
		}
		p = over(d, int64(i), p, sized(d, share/2, 4), api.Part{}, sized(d, share-share/2, 2))
		rest -= share
	}
	return p
}

// good tells parts of d dimensions that may be: closed, of each kind of node, with each choice of what is open.
func good(d int) []api.Part {
	one, two, three := shut(leaf(row(d, 1))), shut(fork(dead(row(d, 2)), kid(d, 3), api.Kid{})), shut(inner(keyed(d, 5), keyed(d, 8)))
	return []api.Part{
		{},
		one, two, three,
		shut(leaf(row(d, 4), row(d, 3), row(d, 6), row(d, 5))),
		shut(fork(live(row(d, 2)), api.Kid{}, api.Kid{})),
		shut(fork(live(row(d, 6)), kid(d, 7), kid(d, 8))),
		opened(fork(live(row(d, 7)), kid(d, 8), api.Kid{}), one, api.Part{}),
		opened(fork(live(row(d, 8)), api.Kid{}, kid(d, 9)), api.Part{}, two),
		opened(fork(dead(row(d, 9)), kid(d, 4), kid(d, 3)), two, one),
		opened(inner(keyed(d, 3), keyed(d, 4)), one, api.Part{}),
		opened(inner(keyed(d, 1), keyed(d, 2), keyed(d, 3), keyed(d, 4)), three, api.Part{}, one, two),
		over(d, 6, over(d, 7, one, one, one), over(d, 8, api.Part{}, over(d, 9, two, api.Part{}, three, one))),
		chain(d, 5, 2, 0), chain(d, 5, 3, 1), sized(d, 9, 2), sized(d, 12, 4),
	}
}

// countOf tells how many open parts there are.
func countOf(p api.Part) int {
	if !p.Open {
		return 0
	}
	n := 1
	for _, below := range p.Parts {
		n += countOf(below)
	}
	return n
}

// deepOf tells by how many open parts the longest way down goes.
func deepOf(p api.Part) int {
	if !p.Open {
		return 0
	}
	most := 0
	for _, below := range p.Parts {
		most = max(most, deepOf(below))
	}
	return 1 + most
}

// nodesOf tells the open parts' nodes.
func nodesOf(p api.Part) []api.Node {
	if !p.Open {
		return nil
	}
	l := []api.Node{p.Node}
	for _, below := range p.Parts {
		l = append(l, nodesOf(below)...)
	}
	return l
}

// whole tells whether a part, and each below it, is closed, or open with what an open one has; how many they are, and how deep, isn't asked.
func whole(p api.Part, d int) bool {
	if !p.Open {
		return p.Node.Kind == 0 && len(p.Node.Rows) == 0 && len(p.Node.Kids) == 0 && len(p.Parts) == 0
	}
	if !node.Right(p.Node, d) || len(p.Parts) != len(p.Node.Kids) {
		return false
	}
	for i, below := range p.Parts {
		if !whole(below, d) || below.Open && node.Empty(p.Node.Kids[i]) {
			return false
		}
	}
	return true
}

// mayBe: may a part of d dimensions be, by the chapter's words.
func mayBe(p api.Part, d int) bool {
	return whole(p, d) && countOf(p) <= 4096 && deepOf(p) <= 64
}

// bytesOf puts a part's bytes together by the chapter's words, also those of one that has too much, or is too deep, or is open where it may not.
func bytesOf(t *testing.T, p api.Part, d int) []byte {
	t.Helper()
	if !p.Open {
		return []byte{0}
	}
	text, err := node.Encode(p.Node, d)
	if err != api.OK {
		t.Fatalf("a node that has no bytes: %+v", p.Node)
	}
	b := framed(text)
	for _, below := range p.Parts {
		b = append(b, bytesOf(t, below, d)...)
	}
	return b
}

// framed tells the bytes of an open part whose node's bytes are text, but for its Parts.
func framed(text []byte) []byte {
	n := len(text)
	return append([]byte{1, byte(n >> 16), byte(n >> 8), byte(n)}, text...)
}

// closedBut tells the part that Close must tell; first is the number of its first open one.
func closedBut(p api.Part, keep []bool, first int) api.Part {
	if !p.Open || first >= len(keep) || !keep[first] {
		return api.Part{}
	}
	q := api.Part{Open: true, Node: p.Node}
	next := first + 1
	for _, below := range p.Parts {
		q.Parts = append(q.Parts, closedBut(below, keep, next))
		next += countOf(below)
	}
	return q
}

func alikeNodes(a, b api.Node) bool {
	return a.Kind == b.Kind && slices.EqualFunc(a.Kids, b.Kids, node.Same) &&
		slices.EqualFunc(a.Rows, b.Rows, func(x, y api.Entry) bool { return x.Live == y.Live && slices.Equal(x.Row, y.Row) })
}

// alike: are two parts the same?
func alike(p, q api.Part) bool {
	return p.Open == q.Open && alikeNodes(p.Node, q.Node) && slices.EqualFunc(p.Parts, q.Parts, alike)
}

func copyRow(r api.Row) api.Row { return slices.Clone(r) }

func copyNode(n api.Node) api.Node {
	n.Rows, n.Kids = slices.Clone(n.Rows), slices.Clone(n.Kids)
	for i := range n.Rows {
		n.Rows[i].Row = copyRow(n.Rows[i].Row)
	}
	for i, k := range n.Kids {
		n.Kids[i].Box, n.Kids[i].Key = api.Box{Lo: copyRow(k.Box.Lo), Hi: copyRow(k.Box.Hi)}, copyRow(k.Key)
	}
	return n
}

func copyPart(p api.Part) api.Part {
	p.Node, p.Parts = copyNode(p.Node), slices.Clone(p.Parts)
	for i := range p.Parts {
		p.Parts[i] = copyPart(p.Parts[i])
	}
	return p
}

// open tells where the open ones of a part stand, in order.
func open(p *api.Part) []*api.Part {
	if !p.Open {
		return nil
	}
	l := []*api.Part{p}
	for i := range p.Parts {
		l = append(l, open(&p.Parts[i])...)
	}
	return l
}

// turned tells a copy of a part in which the open one of a number was turned.
func turned(p api.Part, number int, by func(p *api.Part)) api.Part {
	p = copyPart(p)
	by(open(&p)[number])
	return p
}

// accepted holds against a part that may be what each call must tell of it.
func accepted(t *testing.T, p api.Part, d int, what ...any) []byte {
	t.Helper()
	if !prune.Right(p, d) {
		t.Errorf("it may not be: %v", what)
	}
	want := bytesOf(t, p, d)
	b, err := prune.Encode(p, d)
	if !bytes.Equal(b, want) || err != api.OK {
		t.Errorf("Encode: %d bytes, error %d, not %d: %v", len(b), err, len(want), what)
	}
	if n := prune.Size(p, d); n != len(want) {
		t.Errorf("Size: %d, not %d: %v", n, len(want), what)
	}
	if q, err := prune.Decode(want, d); !alike(q, p) || err != api.OK {
		t.Errorf("Decode: error %d, or another part: %v", err, what)
	}
	return want
}

// refused holds against a part that may not be what each call must tell of it.
func refused(t *testing.T, p api.Part, d int, what ...any) {
	t.Helper()
	if prune.Right(p, d) {
		t.Errorf("it may be: %v", what)
	}
	if b, err := prune.Encode(p, d); len(b) != 0 || err != api.ErrArg {
		t.Errorf("Encode: %d bytes, error %d: %v", len(b), err, what)
	}
	if n := prune.Size(p, d); n != 0 {
		t.Errorf("Size: %d: %v", n, what)
	}
}

// undecoded holds against bytes that are no part's what Decode must tell of them.
func undecoded(t *testing.T, b []byte, d int, what ...any) {
	t.Helper()
	if p, err := prune.Decode(b, d); !alike(p, api.Part{}) || err != api.ErrForm {
		t.Errorf("Decode: error %d, open: %t, %d Parts: %v", err, p.Open, len(p.Parts), what)
	}
}

// numbers tells n numbers of few, so that some are the same, or of all.
func numbers(random *rand.Rand, n int) api.Row {
	r := make(api.Row, n)
	for i := range r {
		r[i] = []int64{random.Int63n(7) - 3, int64(random.Uint64()), math.MinInt64, math.MaxInt64}[random.Intn(4)]
	}
	return r
}

// anyNode tells a node of d dimensions that may be; of a Fork some kids are the empty tree. Low tells whether it is to have no kids that aren't.
func anyNode(random *rand.Rand, d int, low bool) api.Node {
	switch kind := random.Intn(3); {
	case kind == 0 || low && kind == 2:
		n := fork(api.Entry{Row: numbers(random, d), Live: random.Intn(2) == 0}, api.Kid{}, api.Kid{})
		for i := range n.Kids {
			if !low && random.Intn(3) > 0 {
				n.Kids[i] = kid(d, random.Int63())
			}
		}
		return n
	case kind == 1:
		n := leaf()
		for range 1 + random.Intn(4) {
			n.Rows = append(n.Rows, live(numbers(random, d)))
		}
		return n
	}
	n := inner()
	for range 2 + random.Intn(3) {
		n.Kids = append(n.Kids, keyed(d, random.Int63()))
	}
	return n
}

// anyPart tells a part of d dimensions that may be, at most so deep.
func anyPart(random *rand.Rand, d, deep int) api.Part {
	if deep == 0 || random.Intn(5) == 0 {
		return api.Part{}
	}
	p := shut(anyNode(random, d, random.Intn(deep) == 0))
	for i, k := range p.Node.Kids {
		if !node.Empty(k) {
			p.Parts[i] = anyPart(random, d, deep-1)
		}
	}
	return p
}
