package prune_test

import (
	"bytes"
	"math/rand"
	"slices"
	"testing"

	"indenture/api"
	"indenture/prune"
)

const spare = 3 // elements of room behind each list that is handed in

// room is a copy of a list with elements behind it that aren't of it.
func room[T any](l []T, behind T) []T {
	c := slices.Clone(l)
	for range spare {
		c = append(c, behind)
	}
	return c[:len(l)]
}

// stays tells whether what stands behind a list is what room put there.
func stays[T any](l []T, is func(x T) bool) bool {
	return !slices.ContainsFunc(l[len(l):len(l)+spare], func(x T) bool { return !is(x) })
}

func roomyRow(r api.Row) api.Row { return room(r, -77) }

func rowStays(r api.Row) bool { return stays(r, func(x int64) bool { return x == -77 }) }

func roomyNode(n api.Node) api.Node {
	n.Rows, n.Kids = room(n.Rows, dead(api.Row{-78})), room(n.Kids, api.Kid{Live: -79})
	for i := range n.Rows {
		n.Rows[i].Row = roomyRow(n.Rows[i].Row)
	}
	for i, k := range n.Kids {
		n.Kids[i].Box, n.Kids[i].Key = api.Box{Lo: roomyRow(k.Box.Lo), Hi: roomyRow(k.Box.Hi)}, roomyRow(k.Key)
	}
	return n
}

// roomy is a copy of a part, behind each of whose lists elements stand that aren't of it.
func roomy(p api.Part) api.Part {
	p.Node, p.Parts = roomyNode(p.Node), room(p.Parts, api.Part{Node: api.Node{Kind: 80}})
	for i := range p.Parts {
		p.Parts[i] = roomy(p.Parts[i])
	}
	return p
}

// rowsOf tells all rows of a node.
func rowsOf(n api.Node) []api.Row {
	var l []api.Row
	for _, e := range n.Rows {
		l = append(l, e.Row)
	}
	for _, k := range n.Kids {
		l = append(l, k.Box.Lo, k.Box.Hi, k.Key)
	}
	return l
}

// roomStays tells whether all that stands behind a roomy part's lists is what roomy put there.
func roomStays(p api.Part) bool {
	turned := func(r api.Row) bool { return !rowStays(r) }
	other := func(p api.Part) bool { return !roomStays(p) }
	return !slices.ContainsFunc(rowsOf(p.Node), turned) && !slices.ContainsFunc(p.Parts, other) &&
		stays(p.Node.Rows, func(e api.Entry) bool { return !e.Live && slices.Equal(e.Row, api.Row{-78}) }) &&
		stays(p.Node.Kids, func(k api.Kid) bool { return k.Live == -79 }) &&
		stays(p.Parts, func(p api.Part) bool { return !p.Open && p.Node.Kind == 80 })
}

// spoil writes over a list of numbers, and the room behind it.
func spoil(r api.Row) {
	for i := range r[:cap(r)] {
		r[:cap(r)][i] ^= 0x5a5a
	}
}

// spoilNode writes over all lists of a node, and the room behind them.
func spoilNode(n api.Node) {
	for _, r := range rowsOf(n) {
		spoil(r)
	}
	for i := range n.Rows[:cap(n.Rows)] {
		n.Rows[:cap(n.Rows)][i] = dead(api.Row{-6})
	}
	for i := range n.Kids[:cap(n.Kids)] {
		n.Kids[:cap(n.Kids)][i] = api.Kid{Live: -5, Key: api.Row{4}}
	}
}

// spoilPart writes over all lists of a part, those that are furthest down first, and the room behind them.
func spoilPart(p api.Part) {
	for _, below := range p.Parts {
		spoilPart(below)
	}
	spoilNode(p.Node)
	for i := range p.Parts[:cap(p.Parts)] {
		p.Parts[:cap(p.Parts)][i] = opened(leaf(api.Row{5}))
	}
}

func spoilBytes(b []byte) {
	for i := range b[:cap(b)] {
		b[:cap(b)][i] ^= 0x5a
	}
}

func spoilBools(l []bool) {
	for i := range l[:cap(l)] {
		l[:cap(l)][i] = !l[:cap(l)][i]
	}
}

// handed tells parts that are handed in: some that may be, and some that may not.
func handed(d int) []api.Part {
	l := good(d)
	for _, n := range wrongNodes(d)[:9] {
		l = append(l, shut(n), over(d, 2, shut(leaf(row(d, 1))), shut(n)))
	}
	return append(l, chain(d, 65, 2, 1), opened(leaf(row(d, 1)), shut(leaf(row(d, 2)))))
}

// keeps tells some choices for a part of so many open ones.
func keeps(random *rand.Rand, count int) [][]bool {
	l := [][]bool{nil, all(count), all(count + 2), none(count)}
	for range 4 {
		keep := make([]bool, random.Intn(count+2))
		for i := range keep {
			keep[i] = random.Intn(4) > 0
		}
		l = append(l, keep)
	}
	return l
}

// P15.1 to P15.4: parts that are handed in stay as they are, their spare room too, whatever comes of it; written over behind it they turn no bytes and no numbers.
func TestPartsStay(t *testing.T) {
	for _, d := range []int{1, 2, 8} {
		for i, was := range append(handed(d), unclosed(d)...) {
			p := roomy(was)
			b, err := prune.Encode(p, d)
			prune.Right(p, d)
			prune.Count(p)
			prune.Deep(p)
			prune.Size(p, d)
			prune.Nodes(p)
			prune.Close(p, all(3))
			prune.Close(p, nil)
			if !alike(p, was) || !roomStays(p) {
				t.Fatalf("it turned: %d of %d dimensions", i, d)
			}
			spoilPart(p)
			if err == api.OK && !bytes.Equal(b, bytesOf(t, was, d)) {
				t.Errorf("its bytes turned with it: %d of %d dimensions", i, d)
			}
		}
	}
}

// P15.3: a part and a keep that are handed in stay as they are, their spare room too; written over behind it they don't turn what is left.
func TestCloseTurnsNothing(t *testing.T) {
	random := rand.New(rand.NewSource(1))
	for _, d := range []int{1, 2, 8} {
		for i, was := range handed(d) {
			for j, kept := range keeps(random, countOf(was)) {
				p, keep := roomy(was), room(kept, true)
				q := prune.Close(p, keep)
				if !alike(p, was) || !roomStays(p) {
					t.Fatalf("the part turned: %d of %d dimensions, %d", i, d, j)
				}
				if !slices.Equal(keep, kept) || !stays(keep, func(x bool) bool { return x }) {
					t.Fatalf("what is kept turned: %d of %d dimensions, %d", i, d, j)
				}
				want := copyPart(q)
				spoilPart(p)
				spoilBools(keep)
				if !alike(q, want) {
					t.Fatalf("what is left turned: %d of %d dimensions, %d", i, d, j)
				}
			}
		}
	}
}

// P15.3: keep holds of no number behind its end, whatever its spare room has.
func TestCloseAsksNoSpareRoom(t *testing.T) {
	p := good(2)[12]
	for length := range countOf(p) {
		left(t, p, all(100)[:length], closedBut(p, all(length), 0), length)
	}
}

// P15.3: what is left may be written over, its spare room too: neither the part turns, nor what was left of it another time.
func TestLeftMayTurn(t *testing.T) {
	random := rand.New(rand.NewSource(2))
	for _, d := range []int{1, 2, 8} {
		for i, p := range handed(d) {
			was := copyPart(p)
			for j, keep := range keeps(random, countOf(p)) {
				one, two := prune.Close(p, keep), prune.Close(p, keep)
				kept := copyPart(two)
				apart(t, one, i, d, j)
				spoilPart(one)
				if !alike(two, kept) || !alike(p, was) || !alike(prune.Close(p, keep), kept) {
					t.Fatalf("it turned with what was told: %d of %d dimensions, %d", i, d, j)
				}
			}
		}
	}
}

// apart holds against a part that no list of it turns, when another one is written over, or grows.
func apart(t *testing.T, p api.Part, what ...any) {
	t.Helper()
	var l []api.Row
	for _, n := range nodesOf(p) {
		l = append(l, rowsOf(n)...)
	}
	was := make([]api.Row, len(l))
	for i, r := range l {
		was[i] = copyRow(r)
	}
	for i, r := range l {
		spoil(r)
		_ = append(r, 1, 2)
		was[i] = copyRow(r)
		if !slices.EqualFunc(l, was, func(a, b api.Row) bool { return slices.Equal(a, b) }) {
			t.Fatalf("a list turned with list %d: %v", i, what)
		}
	}
}

// P15.2: nodes that were told may be written over, their spare room too: neither the part turns, nor those that were told another time, nor each other; and they don't turn with the part.
func TestNodesMayTurn(t *testing.T) {
	for _, d := range []int{1, 2, 8} {
		for i, p := range handed(d) {
			p = copyPart(p)
			was := copyPart(p)
			want := nodesOf(was)
			one, two := prune.Nodes(p), prune.Nodes(p)
			for j, n := range one {
				spoilNode(n)
				if !slices.EqualFunc(one[j+1:], want[j+1:], alikeNodes) {
					t.Fatalf("nodes turned with node %d: %d of %d dimensions", j, i, d)
				}
			}
			for j := range one[:cap(one)] {
				one[:cap(one)][j] = api.Node{Kind: 77}
			}
			if !alike(p, was) || !slices.EqualFunc(two, want, alikeNodes) || !slices.EqualFunc(prune.Nodes(p), want, alikeNodes) {
				t.Fatalf("it turned with what was told: %d of %d dimensions", i, d)
			}
			spoilPart(p)
			if !slices.EqualFunc(two, want, alikeNodes) {
				t.Fatalf("nodes turned with the part: %d of %d dimensions", i, d)
			}
		}
	}
}

// P15.1: bytes that are handed in stay as they are, their spare room too, whether they are a part's or not; written over behind it they turn no part.
func TestBytesStay(t *testing.T) {
	for _, d := range []int{1, 2, 8} {
		for i, p := range good(d) {
			text := append(bytesOf(t, p, d), 1, 2, 3, 4, 5)
			was := bytes.Clone(text)
			for _, cut := range []int{5, 6, 4, len(text)} {
				q, err := prune.Decode(text[:len(text)-cut], d)
				if !bytes.Equal(text, was) {
					t.Errorf("the bytes turned: %d of %d dimensions", i, d)
				}
				spoilBytes(text)
				if cut == 5 && (err != api.OK || !alike(q, p)) {
					t.Errorf("the part turned: %d of %d dimensions", i, d)
				}
				copy(text, was)
			}
		}
	}
}

// P15.1: bytes and parts that were told may be written over, their spare room too; others stay, and so does what they were told of.
func TestToldMayTurn(t *testing.T) {
	for _, d := range []int{1, 2, 8} {
		for i, p := range good(d) {
			was, want := copyPart(p), bytesOf(t, p, d)
			one := accepted(t, p, d, i, d)
			b, _ := prune.Encode(p, d)
			c, _ := prune.Encode(p, d)
			spoilBytes(b)
			_ = append(b, 1, 2, 3)
			if !bytes.Equal(c, want) || !alike(p, was) {
				t.Errorf("bytes turned with others: %d of %d dimensions", i, d)
			}
			q, _ := prune.Decode(one, d)
			r, _ := prune.Decode(one, d)
			apart(t, r, i, d)
			r, _ = prune.Decode(one, d)
			spoilPart(q)
			if !alike(r, was) || !bytes.Equal(one, want) {
				t.Errorf("a part turned with another one: %d of %d dimensions", i, d)
			}
			accepted(t, p, d, i, d)
		}
	}
}
