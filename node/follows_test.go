package node_test

import (
	"bytes"
	"math/rand"
	"testing"

	"indenture/api"
	"indenture/box"
	"indenture/node"
	"indenture/page"
)

// each tells nodes that may be: each kind's of each dimension, and many of chance.
func each(yield func(n api.Node, d int) bool) {
	for d := 1; d <= 8; d++ {
		for _, n := range good(d) {
			if !yield(n, d) {
				return
			}
		}
	}
	random := rand.New(rand.NewSource(5))
	for range 4000 {
		d := 1 + random.Intn(8)
		if !yield(anyNode(random, d), d) {
			return
		}
	}
}

// P10.5: Decode of Encode is the node, Encode of Decode are the bytes.
func TestThereAndBack(t *testing.T) {
	for n, d := range each {
		b, err := node.Encode(n, d)
		if err != api.OK {
			t.Fatalf("error %d: %+v", err, n)
		}
		again, err := node.Decode(b, d)
		if err != api.OK || !alikeNodes(again, n) {
			t.Fatalf("%+v, error %d, not %+v", again, err, n)
		}
		c, err := node.Encode(again, d)
		if err != api.OK || !bytes.Equal(b, c) {
			t.Fatalf("%d, error %d, not %d", c, err, b)
		}
	}
}

// P10.5: unlike nodes have unlike bytes, so they say unlike sums.
func TestUnlikeNodes(t *testing.T) {
	met := map[string]api.Node{}
	sums := map[api.Digest]api.Node{}
	for n, d := range each {
		b, _ := node.Encode(n, d)
		k, _ := node.Say(n, d)
		if other, ok := met[string(b)]; ok && !alikeNodes(n, other) {
			t.Fatalf("one text of %+v and %+v", n, other)
		}
		if other, ok := sums[k.Sum]; ok && !alikeNodes(n, other) {
			t.Fatalf("one sum of %+v and %+v", n, other)
		}
		met[string(b)], sums[k.Sum] = n, n
	}
	if len(met) != len(sums) {
		t.Errorf("%d texts, %d sums", len(met), len(sums))
	}
}

// P10.5: what a node says may be a kid's; its box has all live rows and all kids' boxes, and each of its sides is one's of them, so there is no lesser one.
func TestBoxIsLeast(t *testing.T) {
	for n, d := range each {
		k, err := node.Say(n, d)
		if err != api.OK || !node.KidRight(k, d) || node.Empty(k) {
			t.Fatalf("error %d: %+v says %+v", err, n, k)
		}
		var inside []api.Box
		for _, e := range n.Rows {
			if e.Live {
				inside = append(inside, box.Of(e.Row))
			}
		}
		for _, below := range n.Kids {
			if below.Live > 0 {
				inside = append(inside, below.Box)
			}
		}
		if len(inside) == 0 {
			if !box.Same(k.Box, api.Box{}) || k.Live != 0 {
				t.Fatalf("a box of nothing: %+v", k)
			}
			continue
		}
		for i := range d {
			low, high := false, false
			for _, b := range inside {
				if !box.Holds(k.Box, b) {
					t.Fatalf("%+v isn't in %+v", b, k.Box)
				}
				low, high = low || b.Lo[i] == k.Box.Lo[i], high || b.Hi[i] == k.Box.Hi[i]
			}
			if !low || !high {
				t.Fatalf("side %d of %+v may be less: %+v", i, k.Box, n)
			}
		}
	}
}

// P10.5: Get of Put is the node; what Put tells is what Say tells, and the same says the same, whatever else was put.
func TestGetOfPut(t *testing.T) {
	s := page.New()
	for n, d := range each {
		first, err := node.Say(n, d)
		if err != api.OK {
			t.Fatalf("error %d: %+v", err, n)
		}
		k, err := node.Put(s, n, d)
		if err != api.OK || !node.Same(k, first) {
			t.Fatalf("%+v, error %d, not %+v", k, err, first)
		}
		again, err := node.Get(s, k, d)
		if err != api.OK || !alikeNodes(again, n) {
			t.Fatalf("%+v, error %d, not %+v", again, err, n)
		}
		if second, _ := node.Say(again, d); !node.Same(second, k) {
			t.Fatalf("%+v, not %+v", second, k)
		}
	}
	if _, _, clash := s.Clash(); clash {
		t.Error("a clash")
	}
}
