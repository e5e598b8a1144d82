package prune_test

import (
	"bytes"
	"math/rand"
	"testing"

	"indenture/api"
	"indenture/node"
	"indenture/prune"
)

// each tells parts that may be: closed, of each kind, of chance, wide and deep.
func each(yield func(p api.Part, d int) bool) {
	for d := 1; d <= 8; d++ {
		for _, p := range good(d) {
			if !yield(p, d) {
				return
			}
		}
	}
	random := rand.New(rand.NewSource(5))
	for range 5000 {
		d := 1 + random.Intn(8)
		if !yield(anyPart(random, d, 1+random.Intn(7)), d) {
			return
		}
	}
	for _, p := range []api.Part{sized(1, 4096, 2), sized(1, 4096, 4), bushy(1, 4096, 64), chain(1, 64, 2, 0), chain(1, 64, 4, 3)} {
		if !yield(p, 1) {
			return
		}
	}
}

// P15.5: Decode of Encode is the part, Encode of Decode are the bytes; Size tells how many they are.
func TestThereAndBack(t *testing.T) {
	for p, d := range each {
		b, err := prune.Encode(p, d)
		if err != api.OK || prune.Size(p, d) != len(b) {
			t.Fatalf("%d bytes, error %d, Size %d: %+v", len(b), err, prune.Size(p, d), p)
		}
		q, err := prune.Decode(b, d)
		if err != api.OK || !alike(q, p) || !prune.Right(q, d) {
			t.Fatalf("%+v, error %d, not %+v", q, err, p)
		}
		c, err := prune.Encode(q, d)
		if err != api.OK || !bytes.Equal(b, c) {
			t.Fatalf("%d, error %d, not %d", c, err, b)
		}
	}
}

// few tells unlike parts that may be, of few nodes: closed, of each form of up to three open ones.
func few(d int) []api.Part {
	l := []api.Part{{}}
	nodes := []api.Node{
		leaf(row(d, 1)), leaf(row(d, 2)), leaf(row(d, 1), row(d, 2)), fork(live(row(d, 1)), api.Kid{}, api.Kid{}), fork(dead(row(d, 1)), api.Kid{}, api.Kid{}),
		fork(live(row(d, 1)), kid(d, 1), api.Kid{}), fork(live(row(d, 1)), api.Kid{}, kid(d, 1)), fork(live(row(d, 1)), kid(d, 1), kid(d, 1)), inner(keyed(d, 1), keyed(d, 1)), inner(keyed(d, 1), keyed(d, 1), keyed(d, 1)),
	}
	for range 2 {
		below := l
		l = []api.Part{{}}
		for _, n := range nodes {
			l = append(l, choices(n, below[:min(len(below), 9)], nil)...)
		}
	}
	return l
}

// choices tells the open parts of a node that begin with some Parts, and go on with each choice of those of a list, closed where the kid is the empty tree.
func choices(n api.Node, below, begun []api.Part) []api.Part {
	if len(begun) == len(n.Kids) {
		return []api.Part{opened(n, append([]api.Part(nil), begun...)...)}
	}
	var l []api.Part
	for _, p := range below {
		if !p.Open || !node.Empty(n.Kids[len(begun)]) {
			l = append(l, choices(n, below, append(begun[:len(begun):len(begun)], p))...)
		}
	}
	return l
}

// P15.5: no bytes of a part begin another one's, so that unlike parts have unlike bytes.
func TestNoneBeginsAnother(t *testing.T) {
	for _, d := range []int{1, 2} {
		var texts [][]byte
		for i, p := range few(d) {
			texts = append(texts, accepted(t, p, d, i, d))
		}
		if len(texts) < 500 {
			t.Fatalf("just %d parts", len(texts))
		}
		for i, a := range texts {
			for j, b := range texts {
				if i != j && bytes.HasPrefix(b, a) {
					t.Fatalf("%d dimensions: %d begin %d", d, a, b)
				}
			}
		}
	}
}

// P15.5: no beginning of a part's bytes is a part's, so that parts whose bytes stand one behind the other are told apart.
func TestNoBeginningIsAPart(t *testing.T) {
	random := rand.New(rand.NewSource(6))
	for range 300 {
		d := 1 + random.Intn(3)
		b := bytesOf(t, anyPart(random, d, 5), d)
		for end := range b {
			undecoded(t, b[:end], d, b, end)
		}
		other := bytesOf(t, anyPart(random, d, 5), d)
		undecoded(t, append(b, other...), d, b, other)
	}
}

// P15.5: unlike parts have unlike bytes, and a copy of a part has the same ones.
func TestUnlikeParts(t *testing.T) {
	met := map[string]api.Part{}
	for p, d := range each {
		b, _ := prune.Encode(p, d)
		if other, ok := met[string(b)]; ok && !alike(p, other) {
			t.Fatalf("one text of %+v and %+v", p, other)
		}
		met[string(b)] = p
		again, _ := prune.Encode(copyPart(p), d)
		if !bytes.Equal(b, again) {
			t.Fatalf("two texts of %+v", p)
		}
	}
	if len(met) < 3000 {
		t.Errorf("just %d parts", len(met))
	}
}
