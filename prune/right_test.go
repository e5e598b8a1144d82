package prune_test

import (
	"math/rand"
	"testing"

	"indenture/api"
	"indenture/node"
)

// P15.1: a closed part may be, whatever the dimension is, also if its lists are there, but empty.
func TestRightClosed(t *testing.T) {
	for _, d := range dims {
		for i, p := range []api.Part{{}, {Parts: []api.Part{}}, {Node: api.Node{Rows: []api.Entry{}, Kids: make([]api.Kid, 0, 4)}, Parts: make([]api.Part, 0, 4)}} {
			accepted(t, p, d, i, d)
		}
	}
}

// unclosed tells parts that aren't open, and have what a closed one may not have.
func unclosed(d int) []api.Part {
	one := shut(leaf(row(d, 1)))
	l := []api.Part{
		{Node: api.Node{Kind: 1}}, {Node: api.Node{Kind: 2}}, {Node: api.Node{Kind: 3}}, {Node: api.Node{Kind: 255}},
		{Node: api.Node{Rows: []api.Entry{{}}}}, {Node: api.Node{Rows: []api.Entry{live(row(d, 1))}}}, {Node: api.Node{Kids: make([]api.Kid, 1)}}, {Node: api.Node{Kids: []api.Kid{kid(d, 1), kid(d, 2)}}},
		{Node: one.Node}, {Parts: make([]api.Part, 1)}, {Parts: make([]api.Part, 2)}, {Parts: []api.Part{one}}, {Parts: []api.Part{{}, one}},
	}
	for _, p := range good(d) {
		if p.Open {
			p.Open = false
			l = append(l, p)
		}
	}
	return l
}

// P15.1: a part that isn't open, but has a Node or Parts, may not be, alone or below an open one.
func TestRightUnclosed(t *testing.T) {
	for d := 1; d <= 8; d++ {
		for i, wrong := range unclosed(d) {
			for _, other := range dims {
				refused(t, wrong, other, i, d, other)
			}
			for number, p := range good(d) {
				for at, above := range open(&p) {
					for j := range above.Parts {
						bad := turned(p, at, func(p *api.Part) { p.Parts[j] = wrong })
						refused(t, bad, d, i, number, at, j, d)
					}
				}
			}
		}
	}
}

// P15.1, P15.4: parts of each kind that may be, of their dimension alone.
func TestRightOpen(t *testing.T) {
	for d := 1; d <= 8; d++ {
		for i, p := range good(d) {
			if !mayBe(p, d) {
				t.Fatalf("part %d of %d dimensions may not be", i, d)
			}
			for _, other := range dims {
				if other == d || !p.Open {
					accepted(t, p, other, i, d, other)
				} else {
					refused(t, p, other, i, d, other)
				}
			}
		}
	}
}

// P15.1: no open part may be of dimensions that there aren't, though its rows and kids have as many numbers, or none.
func TestRightDimensions(t *testing.T) {
	for _, d := range []int{0, 9, 10, 255, 256} {
		for i, p := range good(d) {
			if p.Open {
				refused(t, p, d, i, d)
			}
		}
	}
	for _, d := range dims {
		for kind := range 5 {
			refused(t, opened(api.Node{Kind: byte(kind)}), d, kind, d)
		}
	}
}

// P15.1: each choice of closed and open Parts of a node's kids may be, but an open one of a kid that is the empty tree.
func TestRightChoices(t *testing.T) {
	for _, d := range []int{1, 2, 3, 8} {
		below := []api.Part{{}, shut(leaf(row(d, 1))), over(d, 2, api.Part{}, shut(leaf(row(d, 3))))}
		nodes := []api.Node{
			fork(live(row(d, 1)), kid(d, 1), kid(d, 2)), fork(dead(row(d, 1)), kid(d, 1), api.Kid{}), fork(live(row(d, 1)), api.Kid{}, kid(d, 2)), fork(dead(row(d, 1)), api.Kid{}, api.Kid{}),
			inner(keyed(d, 1), keyed(d, 2)), inner(keyed(d, 1), keyed(d, 2), keyed(d, 3)), inner(keyed(d, 1), keyed(d, 2), keyed(d, 3), keyed(d, 4)),
		}
		for i, n := range nodes {
			choices := 1
			for range n.Kids {
				choices *= len(below)
			}
			for choice := range choices {
				p, rest, right := shut(n), choice, true
				for j, k := range n.Kids {
					p.Parts[j] = below[rest%len(below)]
					right = right && !(node.Empty(k) && p.Parts[j].Open)
					rest /= len(below)
				}
				both(t, p, d, right, i, choice, d)
				both(t, over(d, 4, over(d, 5, api.Part{}, p), api.Part{}), d, right, i, choice, d)
			}
		}
	}
}

// both holds against a part what each call must tell of it, whether it may be or not.
func both(t *testing.T, p api.Part, d int, right bool, what ...any) {
	t.Helper()
	if right {
		accepted(t, p, d, what...)
	} else {
		refused(t, p, d, what...)
	}
}

// P15.1: a kid that is the empty tree has a closed part, also if its lists are there, but empty; a kid whose rows are all dead, or that has no sum, isn't the empty tree.
func TestRightEmptyKid(t *testing.T) {
	one := shut(leaf(row(2, 1)))
	none := api.Kid{Box: api.Box{Lo: api.Row{}, Hi: api.Row{}}, Key: api.Row{}}
	refused(t, opened(fork(live(row(2, 1)), none, kid(2, 1)), one, api.Part{}), 2)
	accepted(t, opened(fork(live(row(2, 1)), none, kid(2, 1)), api.Part{}, one), 2)
	for i, k := range []api.Kid{{Size: 1}, {Sum: api.Digest{31: 1}, Size: 1}, {Size: 1, Live: 1, Box: api.Box{Lo: row(2, 1), Hi: row(2, 1)}}} {
		accepted(t, opened(fork(live(row(2, 1)), k, api.Kid{}), one, api.Part{}), 2, i)
	}
}

// P15.1: an open part has as many Parts as its node has kids: no fewer and no more, closed ones or open ones.
func TestRightCounts(t *testing.T) {
	for _, d := range []int{1, 2, 8} {
		for i, p := range good(d) {
			for at, was := range open(&p) {
				for count := range 8 {
					for _, more := range []api.Part{{}, shut(leaf(row(d, 1)))} {
						bad := turned(p, at, func(p *api.Part) {
							for len(p.Parts) < count {
								p.Parts = append(p.Parts, more)
							}
							p.Parts = p.Parts[:count]
						})
						if count != len(was.Parts) {
							refused(t, bad, d, i, at, count, d)
						}
					}
				}
			}
		}
	}
}

// wrongNodes tells nodes of d dimensions that may not be.
func wrongNodes(d int) []api.Node {
	bad := kid(d, 1)
	bad.Live = bad.Size + 1
	back := kid(d, 2)
	back.Box.Lo[0], back.Box.Hi[0] = 5, 4
	return []api.Node{
		{}, {Kind: 1}, {Kind: 2}, {Kind: 3}, {Kind: 4, Rows: []api.Entry{live(row(d, 1))}}, {Kind: 0, Rows: []api.Entry{live(row(d, 1))}},
		leaf(row(d+1, 1)), leaf(row(d, 1), row(d-1, 2)), leaf(row(d, 1), row(d, 2), row(d, 3), row(d, 4), row(d, 5)), {Kind: 2, Rows: []api.Entry{live(row(d, 1)), dead(row(d, 2))}},
		fork(live(row(d+1, 1)), kid(d, 1), kid(d, 2)), fork(live(row(d, 1)), keyed(d, 1), kid(d, 2)), fork(live(row(d, 1)), bad, api.Kid{}), fork(live(row(d, 1)), kid(d, 1), back),
		fork(live(row(d, 1)), kid(d+1, 1), kid(d, 2)), {Kind: 1, Rows: []api.Entry{live(row(d, 1))}, Kids: []api.Kid{kid(d, 1)}}, {Kind: 1, Kids: make([]api.Kid, 2)},
		inner(keyed(d, 1)), inner(keyed(d, 1), api.Kid{}), inner(keyed(d, 1), kid(d, 2)), inner(keyed(d, 1), keyed(d, 2), keyed(d, 3), keyed(d, 4), keyed(d, 6)),
		{Kind: 3, Rows: []api.Entry{live(row(d, 1))}, Kids: []api.Kid{keyed(d, 1), keyed(d, 2)}},
	}
}

// P15.1: an open part's node must be one that may be, wherever it stands.
func TestRightNodes(t *testing.T) {
	for d := 1; d <= 8; d++ {
		for i, wrong := range wrongNodes(d) {
			for j, p := range good(d) {
				for at, was := range open(&p) {
					refused(t, turned(p, at, func(p *api.Part) { *p = shut(wrong) }), d, i, j, at, d)
					if len(wrong.Kids) == len(was.Node.Kids) {
						refused(t, turned(p, at, func(p *api.Part) { p.Node = wrong }), d, i, j, at, d)
					}
				}
			}
		}
	}
}

// P15.1: a part has at most 4096 open ones, itself too, whether it is wide or deep.
func TestRightMany(t *testing.T) {
	for _, count := range []int{4094, 4095, 4096, 4097, 4098, 5000, 8192} {
		for i, p := range []api.Part{sized(1, count, 2), sized(1, count, 3), sized(1, count, 4), bushy(1, count, 30), bushy(1, count, 63), bushy(1, count, 64)} {
			if countOf(p) != count || deepOf(p) > 64 {
				t.Fatalf("part %d has %d open ones, not %d, and is %d deep", i, countOf(p), count, deepOf(p))
			}
			both(t, p, 1, count <= 4096, i, count)
		}
	}
}

// P15.1: a part is at most 64 deep, wherever its longest way goes, and whatever is beside it.
func TestRightDeep(t *testing.T) {
	for _, deep := range []int{1, 2, 62, 63, 64, 65, 66, 100, 1000} {
		for fan := 2; fan <= 4; fan++ {
			for at := range fan {
				p := chain(2, deep, fan, at)
				both(t, p, 2, deep <= 64, deep, fan, at)
				p.Parts[(at+1)%fan] = sized(2, 50, 4)
				both(t, p, 2, deep <= 64, deep, fan, at)
			}
		}
		if deep >= 30 && deep <= 66 {
			p := bushy(2, 1000, deep)
			if countOf(p) != 1000 || deepOf(p) != deep {
				t.Fatalf("%d open ones, %d deep, not %d", countOf(p), deepOf(p), deep)
			}
			both(t, p, 2, deep <= 64, deep)
		}
	}
}

// P15.1: a part of 4096 open ones, or 64 deep, one of which may not be, whichever: it may not be.
func TestRightLast(t *testing.T) {
	for i, p := range []api.Part{sized(1, 4096, 4), bushy(1, 4096, 64), chain(1, 64, 2, 1)} {
		n := countOf(p)
		for _, at := range []int{0, 1, 2, 30, 62, 63, n - 63, n - 3, n - 2, n - 1} {
			refused(t, turned(p, at, func(p *api.Part) { p.Node.Kind = 9 }), 1, i, at)
			refused(t, turned(p, at, func(p *api.Part) { p.Parts = p.Parts[1:] }), 1, i, at)
			refused(t, turned(p, at, func(p *api.Part) { p.Open = false }), 1, i, at)
		}
	}
}

// P15.1: parts that have themselves below them, or the same one twice below each one, and so never end, or have more open ones than can be counted: they may not be, which is told soon.
func TestRightEndless(t *testing.T) {
	for fan := 2; fan <= 4; fan++ {
		for at := range fan {
			p := over(2, 1, make([]api.Part, fan)...)
			p.Parts[at] = p
			refused(t, p, 2, fan, at)
			p.Parts[0], p.Parts[fan-1] = p, p
			refused(t, p, 2, fan, at)
		}
		for _, deep := range []int{13, 63, 64, 65, 200} {
			p := api.Part{}
			for range deep {
				parts := make([]api.Part, fan)
				for i := range parts {
					parts[i] = p
				}
				p = over(2, 1, parts...)
			}
			refused(t, p, 2, fan, deep)
		}
	}
}

// P15.1: parts of which one stands at several places may be: each place counts.
func TestRightShared(t *testing.T) {
	for _, x := range []struct {
		fan, deep int
		right     bool
	}{{2, 11, true}, {2, 12, true}, {2, 13, false}, {3, 7, true}, {3, 8, true}, {3, 9, false}, {4, 6, true}, {4, 7, false}} {
		p := shut(leaf(row(1, 1)))
		for range x.deep - 1 {
			parts := make([]api.Part, x.fan)
			for i := range parts {
				parts[i] = p
			}
			p = over(1, 3, parts...)
		}
		both(t, p, 1, x.right, x)
	}
}

// P15.1, P15.4: parts of chance, with some faults or none, against the chapter's words.
func TestRightByChance(t *testing.T) {
	random := rand.New(rand.NewSource(1))
	met := map[bool]int{}
	const rounds = 20000
	for range rounds {
		d := 1 + random.Intn(3)
		p := copyPart(anyPart(random, d, 1+random.Intn(7)))
		for range random.Intn(3) {
			if l := open(&p); len(l) > 0 {
				fault(random, d, l[random.Intn(len(l))])
			}
		}
		right := mayBe(p, d)
		both(t, p, d, right, p)
		met[right]++
	}
	if met[true] < rounds/4 || met[false] < rounds/4 {
		t.Errorf("%v", met)
	}
}

// fault turns an open part, mostly so that it may not be.
func fault(random *rand.Rand, d int, p *api.Part) {
	switch random.Intn(8) {
	case 0:
		p.Open = false
	case 1:
		p.Node = anyNode(random, d, random.Intn(2) == 0)
	case 2:
		p.Node.Kind = byte(random.Intn(4))
	case 3:
		p.Parts = append(p.Parts, api.Part{})
	case 4:
		p.Parts = p.Parts[:random.Intn(len(p.Parts)+1)]
	case 5:
		if len(p.Node.Kids) > 0 {
			p.Node.Kids[random.Intn(len(p.Node.Kids))] = api.Kid{}
		}
	case 6:
		if len(p.Parts) > 0 {
			p.Parts[random.Intn(len(p.Parts))] = anyPart(random, d, 3)
		}
	case 7:
		if len(p.Node.Rows) > 0 {
			p.Node.Rows[0].Row = numbers(random, d+random.Intn(2))
		}
	}
}
