package node_test

import (
	"bytes"
	"slices"
	"testing"

	"indenture/api"
	"indenture/node"
	"indenture/page"
)

const spare = 3 // elements of room behind each list that is handed in

// room is a copy of a list with elements behind it that aren't of it.
func room[T any](l []T, behind T) []T {
	whole := slices.Clone(l)
	for range spare {
		whole = append(whole, behind)
	}
	return whole[:len(l)]
}

func roomyRow(r api.Row) api.Row { return room(r, -77) }

func roomyKid(k api.Kid) api.Kid {
	k.Box = api.Box{Lo: roomyRow(k.Box.Lo), Hi: roomyRow(k.Box.Hi)}
	k.Key = roomyRow(k.Key)
	return k
}

// roomy is a copy of a node, behind each of whose lists elements stand that aren't of it.
func roomy(n api.Node) api.Node {
	n.Rows = room(n.Rows, dead(api.Row{-78}))
	n.Kids = room(n.Kids, api.Kid{Live: -79})
	for i := range n.Rows {
		n.Rows[i].Row = roomyRow(n.Rows[i].Row)
	}
	for i := range n.Kids {
		n.Kids[i] = roomyKid(n.Kids[i])
	}
	return n
}

// stays tells whether what stands behind a list is what room put there.
func stays[T any](l []T, is func(x T) bool) bool {
	return !slices.ContainsFunc(l[len(l):len(l)+spare], func(x T) bool { return !is(x) })
}

func rowStays(r api.Row) bool { return stays(r, func(x int64) bool { return x == -77 }) }

func kidStays(k api.Kid) bool { return rowStays(k.Box.Lo) && rowStays(k.Box.Hi) && rowStays(k.Key) }

// untouched holds against a roomy node that it is as it was, with all that stands behind its lists.
func untouched(t *testing.T, n, was api.Node, what ...any) {
	t.Helper()
	ok := alikeNodes(n, was) &&
		stays(n.Rows, func(e api.Entry) bool { return !e.Live && slices.Equal(e.Row, api.Row{-78}) }) &&
		stays(n.Kids, func(k api.Kid) bool { return k.Live == -79 })
	for _, e := range n.Rows {
		ok = ok && rowStays(e.Row)
	}
	for _, k := range n.Kids {
		ok = ok && kidStays(k)
	}
	if !ok {
		t.Errorf("it turned: %+v, which was %+v: %v", n, was, what)
	}
}

// spoil writes over a list, and the room behind it.
func spoil(r api.Row) {
	for i := range r[:cap(r)] {
		r[:cap(r)][i] ^= 0x5a5a
	}
}

func spoilKid(k *api.Kid) {
	for _, part := range rowsOf {
		spoil(*part(k))
	}
	*k = api.Kid{Sum: digest(99), Live: -5, Key: api.Row{4}}
}

// spoilNode writes over all lists of a node.
func spoilNode(n api.Node) {
	for i := range n.Rows {
		spoil(n.Rows[i].Row)
		n.Rows[i] = dead(api.Row{-6})
	}
	for i := range n.Kids {
		spoilKid(&n.Kids[i])
	}
	clear(n.Rows[len(n.Rows):cap(n.Rows)])
	clear(n.Kids[len(n.Kids):cap(n.Kids)])
}

func spoilBytes(b []byte) {
	for i := range b[:cap(b)] {
		b[:cap(b)][i] ^= 0xa5
	}
}

// handed tells nodes that may be, and some that may not, all of which must stay as they are.
func handed(d int) []api.Node {
	l := good(d)
	for _, n := range good(d) {
		n.Kind++
		l = append(l, n)
	}
	l = append(l, api.Node{}, leaf(row(d, 1), row(d+1, 2)), inner(keyed(keyless(d, 1), d, 1), keyless(d, 2)))
	return append(l, sized(d, true, 1<<20, 1<<20)...)
}

// P10.1 to P10.4: a node that is handed in stays as it is, its spare room too; written over behind it, it turns nothing of what was told or put.
func TestNodesStay(t *testing.T) {
	for _, d := range []int{1, 2, 8} {
		for i, was := range handed(d) {
			n := roomy(was)
			s := page.New()
			right := node.Right(n, d)
			b, _ := node.Encode(n, d)
			k, _ := node.Say(n, d)
			p, err := node.Put(s, n, d)
			untouched(t, n, was, i, d)
			if right != mayBe(was, d) {
				t.Errorf("%d: %t", i, right)
			}
			spoilNode(n)
			if right && !bytes.Equal(b, bytesOf(was)) {
				t.Errorf("the bytes turned: %d of %d dimensions", i, d)
			}
			if err == api.OK {
				if !alike(k, says(was)) || !alike(p, says(was)) {
					t.Errorf("what it says turned: %d of %d dimensions", i, d)
				}
				got(t, s, says(was), d, was, i, d)
			}
		}
	}
}

// P10.1, P10.4: kids that are handed in stay as they are, their spare room too; written over behind it they turn nothing.
func TestKidsStay(t *testing.T) {
	for _, d := range []int{1, 2, 8} {
		s := page.New()
		for i, n := range good(d) {
			was := put(t, s, n, d)
			for _, o := range append(others(was), turnedKid{"nothing", was}) {
				k, l := roomyKid(o.kid), roomyKid(was)
				node.KidRight(k, d)
				node.Empty(k)
				node.Same(k, l)
				node.Same(l, k)
				again, _ := node.Get(s, k, d)
				if !alike(k, o.kid) || !kidStays(k) || !alike(l, was) || !kidStays(l) {
					t.Errorf("a kid turned: %d of %d dimensions, %s", i, d, o.what)
				}
				spoilKid(&k)
				spoilKid(&l)
				if o.what == "nothing" && !alikeNodes(again, n) {
					t.Errorf("a node turned with its kid: %d of %d dimensions", i, d)
				}
			}
			got(t, s, was, d, n, i, d)
		}
	}
}

// P10.2: bytes that are handed in stay as they are, their spare room too; written over behind it they turn no node.
func TestBytesStay(t *testing.T) {
	for _, d := range []int{1, 2, 8} {
		for i, n := range good(d) {
			whole := append(bytesOf(n), 1, 2, 3, 4, 5)
			was := bytes.Clone(whole)
			for _, cut := range []int{5, 6, 4, len(whole)} {
				got, err := node.Decode(whole[:len(whole)-cut], d)
				if !bytes.Equal(whole, was) {
					t.Errorf("the bytes turned: %d of %d dimensions", i, d)
				}
				spoilBytes(whole)
				if cut == 5 && (err != api.OK || !alikeNodes(got, n)) {
					t.Errorf("the node turned: %d of %d dimensions", i, d)
				}
				copy(whole, was)
			}
		}
	}
}

// P10.2: bytes that were told may be written over, their spare room too; others stay.
func TestToldBytes(t *testing.T) {
	for _, d := range []int{1, 2, 8} {
		for i, n := range good(d) {
			was := copyNode(n)
			one, two := encoded(t, n, d), encoded(t, n, d)
			spoilBytes(one)
			_ = append(one, 1, 2, 3)
			if !bytes.Equal(two, bytesOf(was)) || !alikeNodes(n, was) {
				t.Errorf("they turned with others: %d of %d dimensions", i, d)
			}
			encoded(t, n, d, i, d)
		}
	}
}

// lists tells all rows of a node.
func lists(n api.Node) []api.Row {
	var l []api.Row
	for _, e := range n.Rows {
		l = append(l, e.Row)
	}
	for _, k := range n.Kids {
		l = append(l, k.Box.Lo, k.Box.Hi, k.Key)
	}
	return l
}

// apart holds against lists that none of them turns, when one is written over, or grows.
func apart(t *testing.T, l []api.Row, what ...any) {
	t.Helper()
	for i := range l {
		was := make([]api.Row, len(l))
		for j, r := range l {
			was[j] = slices.Clone(r)
		}
		spoil(l[i])
		_ = append(l[i], 1, 2)
		for j, r := range l {
			if j != i && !slices.Equal(r, was[j]) {
				t.Errorf("list %d turned with list %d: %v", j, i, what)
			}
		}
	}
}

// P10.2, P10.4: nodes that were told may be written over, their spare room too: neither another one that was told turns, nor the store, nor another list of the same one.
func TestToldNodes(t *testing.T) {
	for _, d := range []int{1, 2, 8} {
		s := page.New()
		for i, n := range good(d) {
			k, b := put(t, s, n, d), bytesOf(n)
			one, _ := node.Decode(b, d)
			two, _ := node.Decode(b, d)
			three, _ := node.Get(s, k, d)
			four, _ := node.Get(s, k, d)
			apart(t, lists(one), i, d)
			apart(t, lists(three), i, d)
			spoilNode(one)
			spoilNode(three)
			if !alikeNodes(two, n) || !alikeNodes(four, n) || !bytes.Equal(b, bytesOf(n)) || !alike(k, says(n)) {
				t.Errorf("it turned with another one: %d of %d dimensions", i, d)
			}
			got(t, s, k, d, n, i, d)
		}
	}
}

// P10.3, P10.4: kids that were told may be written over, their spare room too: neither the node turns that said them, nor the store, nor another one that was told, nor another list of the same one.
func TestToldKids(t *testing.T) {
	for _, d := range []int{1, 2, 8} {
		s := page.New()
		for i, n := range good(d) {
			was := copyNode(n)
			one, two := said(t, n, d), said(t, n, d)
			three, four := put(t, s, n, d), put(t, s, n, d)
			for _, k := range []api.Kid{one, three} {
				apart(t, []api.Row{k.Box.Lo, k.Box.Hi, k.Key}, i, d)
				spoilKid(&k)
			}
			if !alikeNodes(n, was) || !alike(two, says(was)) || !alike(four, says(was)) {
				t.Errorf("it turned with what it said: %d of %d dimensions", i, d)
			}
			said(t, n, d, i, d)
			got(t, s, four, d, was, i, d)
		}
	}
}
