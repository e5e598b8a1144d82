package node_test

import (
	"bytes"
	"encoding/binary"
	"math"
	"math/rand"
	"slices"
	"testing"

	"indenture/api"
	"indenture/node"
)

// encoded tells a node's bytes, which must be those that the chapter's words make.
func encoded(t *testing.T, n api.Node, d int, what ...any) []byte {
	t.Helper()
	b, err := node.Encode(n, d)
	if want := bytesOf(n); !bytes.Equal(b, want) || err != api.OK {
		t.Errorf("Encode: %d, error %d, not %d: %v", b, err, want, what)
	}
	return b
}

// decoded reads bytes that are a node's.
func decoded(t *testing.T, b []byte, d int, want api.Node, what ...any) {
	t.Helper()
	if n, err := node.Decode(b, d); !alikeNodes(n, want) || err != api.OK {
		t.Errorf("Decode: %+v, error %d, not %+v: %v", n, err, want, what)
	}
}

// P10.2: the chapter's example, and a Leaf of 13 bytes.
func TestBytesKnown(t *testing.T) {
	want := []byte{2, 2,
		1, 2, 128, 0, 0, 0, 0, 0, 0, 1, 128, 0, 0, 0, 0, 0, 0, 5,
		1, 2, 128, 0, 0, 0, 0, 0, 0, 2, 128, 0, 0, 0, 0, 0, 0, 3,
		0}
	n := leaf(api.Row{1, 5}, api.Row{2, 3})
	if b, err := node.Encode(n, 2); !bytes.Equal(b, want) || err != api.OK {
		t.Errorf("%d, error %d", b, err)
	}
	decoded(t, want, 2, n)
	want = []byte{2, 1, 1, 1, 128, 0, 0, 0, 0, 0, 0, 7, 0}
	if b, err := node.Encode(leaf(api.Row{7}), 1); !bytes.Equal(b, want) || err != api.OK {
		t.Errorf("%d, error %d", b, err)
	}
	decoded(t, want, 1, leaf(api.Row{7}))
}

// P10.2: part by part, a Fork with a tombstone and a kid beside the empty tree, and an Inner.
func TestBytesPartByPart(t *testing.T) {
	k := api.Kid{Sum: digest(1), Live: 0x010203, Size: 0x0a0b0c, Box: api.Box{Lo: api.Row{-1}, Hi: api.Row{math.MaxInt64}}}
	kid := slices.Concat(k.Sum[:], []byte{1, 2, 3, 10, 11, 12, 1, 127, 255, 255, 255, 255, 255, 255, 255, 1, 255, 255, 255, 255, 255, 255, 255, 255})
	want := slices.Concat([]byte{1, 1, 0, 1, 0, 0, 0, 0, 0, 0, 0, 0, 2}, kid, []byte{0}, make([]byte, 32+3+3+3))
	n := fork(dead(api.Row{math.MinInt64}), k, api.Kid{})
	if b, err := node.Encode(n, 1); !bytes.Equal(b, want) || err != api.OK {
		t.Errorf("%d, error %d, not %d", b, err, want)
	}
	decoded(t, want, 1, n)
	k.Key = api.Row{2}
	bare := api.Kid{Sum: digest(2), Size: 1 << 20, Key: api.Row{3}}
	want = slices.Concat([]byte{3, 0, 2}, kid, []byte{1, 128, 0, 0, 0, 0, 0, 0, 2}, bare.Sum[:], []byte{0, 0, 0, 16, 0, 0, 0, 0, 1, 128, 0, 0, 0, 0, 0, 0, 3})
	n = inner(k, bare)
	if b, err := node.Encode(n, 1); !bytes.Equal(b, want) || err != api.OK {
		t.Errorf("%d, error %d, not %d", b, err, want)
	}
	decoded(t, want, 1, n)
}

// P10.2: nodes of each kind, of each dimension, there and back; as a node of no other dimension.
func TestBytes(t *testing.T) {
	for d := 1; d <= 8; d++ {
		for i, n := range good(d) {
			b := encoded(t, n, d, i, d)
			decoded(t, b, d, n, i, d)
			for _, other := range dims {
				if other != d {
					undecoded(t, b, other, says(n), i, d, other)
				}
			}
		}
	}
}

// P10.2: a node's bytes cut, and with bytes behind them, are none's.
func TestBytesCutAndLonger(t *testing.T) {
	for _, d := range []int{1, 2, 3, 8} {
		for i, n := range good(d) {
			b := bytesOf(n)
			for end := range b {
				undecoded(t, b[:end], d, says(n), i, d, end)
			}
			for _, more := range []byte{0, 1, 2, 3, 255} {
				undecoded(t, append(slices.Clip(b), more), d, says(n), i, d, more)
			}
			undecoded(t, append(slices.Clip(b), b...), d, says(n), i, d)
			undecoded(t, append([]byte{0}, b...), d, says(n), i, d)
		}
	}
}

// parse reads bytes as a node's, far from strictly: whether they are can be told by those that the node has.
func parse(b []byte) (n api.Node, ok bool) {
	defer func() {
		if recover() != nil {
			n, ok = api.Node{}, false // they end too early
		}
	}()
	take := func(size int) []byte {
		part := b[:size]
		b = b[size:]
		return part
	}
	row := func() api.Row {
		var r api.Row
		for range take(1)[0] {
			r = append(r, int64(binary.BigEndian.Uint64(take(8))-1<<63))
		}
		return r
	}
	count := func() int { return int(binary.BigEndian.Uint32(append([]byte{0}, take(3)...))) }
	n.Kind = take(1)[0]
	for range take(1)[0] {
		n.Rows = append(n.Rows, api.Entry{Live: take(1)[0] != 0, Row: row()})
	}
	for range take(1)[0] {
		k := api.Kid{Sum: api.Digest(take(32)), Live: count(), Size: count()}
		k.Box.Lo, k.Box.Hi, k.Key = row(), row(), row()
		n.Kids = append(n.Kids, k)
	}
	return n, len(b) == 0
}

// judged reads bytes whatever they are, and tells whether they are a node's.
func judged(t *testing.T, b []byte, d int, what ...any) bool {
	t.Helper()
	n, ok := parse(b)
	if !ok || !mayBe(n, d) || !bytes.Equal(bytesOf(n), b) {
		undecoded(t, b, d, api.Kid{}, what...)
		return false
	}
	decoded(t, b, d, n, what...)
	return true
}

// P10.2: a node's bytes of which one is turned to any other one are another node's, or none's; just as its words say.
func TestBytesTurned(t *testing.T) {
	for _, d := range []int{1, 2} {
		nodes := good(d)
		for _, i := range []int{1, 5, 7, 8, 10, 13} {
			b := bytesOf(nodes[i])
			taken := 0
			for at, was := range b {
				for x := range 256 {
					b[at] = byte(x)
					if x != int(was) {
						taken += one(judged(t, b, d, i, d, at, x))
					}
				}
				b[at] = was
			}
			if taken < 1000 {
				t.Errorf("node %d of %d dimensions: just %d are another node's", i, d, taken)
			}
		}
	}
}

// P10.2: the bytes of a node that may not be are none's: kinds that there are none of, kids that may not be, dead entries, too many or too few.
func TestBytesOfWrongNodes(t *testing.T) {
	for _, d := range []int{1, 2, 8} {
		for i, n := range good(d) {
			for kind := range 256 {
				if byte(kind) != n.Kind {
					undecoded(t, append([]byte{byte(kind)}, bytesOf(n)[1:]...), d, says(n), i, kind)
				}
			}
			for _, wrong := range wrongKids(d) {
				if wrong.kid.Live < 0 || wrong.kid.Size < 0 || wrong.kid.Live >= 1<<24 || wrong.kid.Size >= 1<<24 {
					continue // such counts have no bytes
				}
				for j, k := range n.Kids {
					bad := copyNode(n)
					bad.Kids[j] = copyKid(wrong.kid)
					bad.Kids[j].Key = k.Key
					undecoded(t, bytesOf(bad), d, says(n), wrong.what, i, j)
				}
			}
		}
		for _, rows := range entries(d) {
			for _, kids := range kidLists(d) {
				if len(rows) > 4 && len(kids) > 4 {
					continue
				}
				for kind := byte(0); kind < 5; kind++ {
					n := api.Node{Kind: kind, Rows: rows, Kids: kids}
					if !mayBe(n, d) {
						if _, err := node.Decode(bytesOf(n), d); err != api.ErrForm {
							t.Errorf("error %d of %+v", err, n)
						}
					}
				}
			}
		}
	}
}

// P10.2: bytes that are nobody's: none, counts of which nothing comes, rows of 255 numbers, many bytes.
func TestBytesOfNobody(t *testing.T) {
	long := api.Node{Kind: 2, Rows: []api.Entry{live(row(255, 1))}}
	many := api.Node{Kind: 2}
	for i := range 255 {
		many.Rows = append(many.Rows, live(row(2, int64(i))))
	}
	for i, b := range [][]byte{nil, {}, {0}, {1}, {2}, {3}, {2, 0, 0}, {3, 0, 0}, {0, 0, 0}, {2, 255}, {2, 255, 255}, {3, 0, 255}, {1, 255, 255},
		bytes.Repeat([]byte{2}, 1000), bytes.Repeat([]byte{255}, 1000), make([]byte, 1<<20), bytesOf(long), bytesOf(many)} {
		for _, d := range dims {
			undecoded(t, b, d, api.Kid{}, i, d)
		}
	}
}

// P10.2, P10.5: bytes of chance, made of a node's by some turns, against the chapter's words.
func TestBytesByChance(t *testing.T) {
	random := rand.New(rand.NewSource(2))
	taken := 0
	const rounds = 40000
	for range rounds {
		d := 1 + random.Intn(3)
		b := bytesOf(anyNode(random, d))
		for range random.Intn(4) {
			at := random.Intn(len(b))
			switch random.Intn(4) {
			case 0:
				b[at] = byte(random.Intn(5))
			case 1:
				b[at] ^= 1 << random.Intn(8)
			case 2:
				b = slices.Delete(b, at, min(len(b)-1, at+[]int{1, 8, 9, 10}[random.Intn(4)]))
			case 3:
				b = slices.Insert(b, at, make([]byte, []int{1, 8, 9, 10}[random.Intn(4)])...)
			}
			if len(b) == 0 {
				break
			}
		}
		taken += one(judged(t, b, d, b))
	}
	if taken < rounds/4 || taken > rounds*3/4 {
		t.Errorf("%d of %d are a node's", taken, rounds)
	}
}
