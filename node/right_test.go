package node_test

import (
	"math"
	"math/rand"
	"testing"

	"indenture/api"
	"indenture/node"
)

// P10.1: nodes of each kind that may be, of their dimension alone.
func TestRight(t *testing.T) {
	for d := 1; d <= 8; d++ {
		for i, n := range good(d) {
			for _, other := range dims {
				if got := node.Right(n, other); got != (other == d) {
					t.Errorf("node %d of %d dimensions, as one of %d: %t", i, d, other, got)
				}
				if other != d {
					refused(t, n, other, i, d, other)
				}
			}
		}
	}
}

// P10.1: of no row, no corner and no Key below 1 and above 8 dimensions there is a node.
func TestRightDimensions(t *testing.T) {
	for _, d := range []int{0, 9, 10, 255, 256, 1000} {
		for i, n := range good(d) {
			refused(t, n, d, i, d)
		}
	}
	for _, d := range dims {
		for kind := range 256 {
			refused(t, api.Node{Kind: byte(kind)}, d, kind, d)
		}
	}
}

// P10.1: each kind, and some that there are none of, with each count of entries, live or not, and of kids, with Keys or without, the empty tree among them.
func TestRightCounts(t *testing.T) {
	const d = 2
	right := 0
	for _, kind := range []byte{0, 1, 2, 3, 4, 5, 129, 255} {
		for _, rows := range entries(d) {
			for _, kids := range kidLists(d) {
				n := api.Node{Kind: kind, Rows: rows, Kids: kids}
				want := mayBe(n, d)
				right += one(want)
				if got := node.Right(n, d); got != want {
					t.Errorf("kind %d, %d entries, %d kids: %t: %+v", kind, len(rows), len(kids), got, n)
				}
				if !want {
					refused(t, n, d, kind, len(rows), len(kids))
				}
			}
		}
	}
	if right < 20 {
		t.Errorf("just %d of them may be", right)
	}
}

// entries tells lists of 0 to 6 entries, in which all live, none, or just one does or doesn't.
func entries(d int) [][]api.Entry {
	l := [][]api.Entry{nil, {}}
	for n := 1; n <= 6; n++ {
		for odd := -1; odd < n; odd++ {
			for _, alive := range []bool{false, true} {
				var rows []api.Entry
				for i := range n {
					rows = append(rows, api.Entry{Row: row(d, int64(i)), Live: alive != (i == odd)})
				}
				l = append(l, rows)
			}
		}
	}
	return l
}

// kidLists tells lists of 0 to 6 kids, in which all are of one form, or just one is of another one.
func kidLists(d int) [][]api.Kid {
	forms := []api.Kid{{}, keyless(d, 1), lifeless(2), keyed(keyless(d, 3), d, 3), keyed(lifeless(4), d, 4)}
	l := [][]api.Kid{nil, {}}
	for n := 1; n <= 6; n++ {
		for _, most := range forms {
			for odd := -1; odd < n; odd++ {
				for _, other := range forms {
					kids := make([]api.Kid, n)
					for i := range kids {
						kids[i] = most
					}
					if odd >= 0 {
						kids[odd] = other
					}
					l = append(l, kids)
				}
			}
		}
	}
	return l
}

// P10.1: each row must have d numbers, each kid's Key too, or none, each alone.
func TestRightRows(t *testing.T) {
	for d := 1; d <= 8; d++ {
		for i, n := range good(d) {
			for _, count := range []int{0, d - 1, d + 1, 2 * d, 256} {
				for j := range n.Rows {
					wrong := copyNode(n)
					wrong.Rows[j].Row = row(count, 7)
					refused(t, wrong, d, "row", i, j, count, d)
				}
				for j := range n.Kids {
					wrong := copyNode(n)
					wrong.Kids[j].Key = row(count, 7)
					if n.Kind != 1 || count != 0 {
						refused(t, wrong, d, "key", i, j, count, d)
					}
				}
			}
			for j := range n.Kids {
				wrong := copyNode(n)
				wrong.Kids[j].Key = row(d, 7)
				if n.Kind == 1 {
					refused(t, wrong, d, "key", i, j, d)
				}
			}
		}
	}
}

// wrongKids tells kids that may not be, each for one fault alone.
func wrongKids(d int) []turnedKid {
	full, bare := keyless(d, 2), lifeless(3)
	var l []turnedKid
	add := func(what string, k api.Kid, by func(k *api.Kid)) { l = append(l, turnedKid{what, turn(k, by)}) }
	for _, size := range []int{math.MinInt, -1, 0, 1<<20 + 1, 1 << 24, math.MaxInt} {
		add("size", full, func(k *api.Kid) { k.Size, k.Live = size, min(size, k.Live) })
		add("size", full, func(k *api.Kid) { k.Size, k.Live = size, 1 })
		add("size, none live", bare, func(k *api.Kid) { k.Size = size })
	}
	add("more live than all", full, func(k *api.Kid) { k.Live = k.Size + 1 })
	add("more live than may be", full, func(k *api.Kid) { k.Size, k.Live = 1<<20, 1<<20+1 })
	for _, n := range []int{math.MinInt, -1} {
		add("live below none", full, func(k *api.Kid) { k.Live = n })
		add("live below none", bare, func(k *api.Kid) { k.Live = n })
	}
	add("no box", full, func(k *api.Kid) { k.Box = api.Box{} })
	add("no box, one live", bare, func(k *api.Kid) { k.Live = 1 })
	add("a box of none", full, func(k *api.Kid) { k.Live = 0 })
	add("a corner of none", bare, func(k *api.Kid) { k.Box.Lo = row(d, 1) })
	add("a corner of none", bare, func(k *api.Kid) { k.Box.Hi = row(d, 1) })
	add("no lower corner", full, func(k *api.Kid) { k.Box.Lo = nil })
	add("no upper corner", full, func(k *api.Kid) { k.Box.Hi = nil })
	for _, n := range []int{d - 1, d + 1} {
		add("corners of other numbers", full, func(k *api.Kid) { k.Box = api.Box{Lo: make(api.Row, n), Hi: make(api.Row, n)} })
		add("a corner of other numbers", full, func(k *api.Kid) { k.Box.Lo = make(api.Row, n) })
		add("a corner of other numbers", full, func(k *api.Kid) { k.Box.Hi = make(api.Row, n) })
	}
	for i := range d {
		add("a side that goes back", full, func(k *api.Kid) { k.Box.Lo[i], k.Box.Hi[i] = 5, 4 })
		add("a side that goes back", full, func(k *api.Kid) { k.Box.Lo[i], k.Box.Hi[i] = math.MaxInt64, math.MinInt64 })
	}
	add("a sum of nothing", api.Kid{}, func(k *api.Kid) { k.Sum[31] = 1 })
	add("a sum of nothing", api.Kid{}, func(k *api.Kid) { k.Sum[0] = 128 })
	add("one live of nothing", api.Kid{}, func(k *api.Kid) { k.Live = 1 })
	add("a box of nothing", api.Kid{}, func(k *api.Kid) { k.Box = full.Box })
	add("a corner of nothing", api.Kid{}, func(k *api.Kid) { k.Box.Lo = row(d, 1) })
	add("a corner of nothing", api.Kid{}, func(k *api.Kid) { k.Box.Hi = row(d, 1) })
	return l
}

// P10.1: a kid that may not be, alone and as each kid of a node, with each fault.
func TestKidFaults(t *testing.T) {
	for d := 1; d <= 8; d++ {
		for _, wrong := range wrongKids(d) {
			for _, k := range []api.Kid{wrong.kid, keyed(wrong.kid, d, 9)} {
				if node.KidRight(k, d) {
					t.Errorf("%s, %d dimensions: it may be: %+v", wrong.what, d, k)
				}
			}
			for i, n := range good(d) {
				for j, k := range n.Kids {
					bad := copyNode(n)
					bad.Kids[j] = copyKid(wrong.kid)
					bad.Kids[j].Key = k.Key
					refused(t, bad, d, wrong.what, i, j, d)
				}
			}
		}
		for what, k := range map[string]api.Kid{
			"a Key of nothing": {Key: row(d, 1)}, "a Key of no dimension of nothing": {Key: row(d+1, 1)},
		} {
			if node.KidRight(k, d) {
				t.Errorf("%s, %d dimensions: it may be", what, d)
			}
		}
	}
}

// P10.1: kids that may be: those at the ends of Size and Live, with whatever Key, without a sum too; the empty tree for whatever dimension.
func TestKidRight(t *testing.T) {
	for d := 1; d <= 8; d++ {
		for _, k := range []api.Kid{
			keyless(d, 1), lifeless(2), turn(keyless(d, 3), func(k *api.Kid) { k.Sum = api.Digest{} }), {Size: 1}, {Size: 1 << 20},
			turn(keyless(d, 4), func(k *api.Kid) { k.Live, k.Size = 1, 1 }),
			turn(keyless(d, 4), func(k *api.Kid) { k.Live, k.Size = 1, 1<<20 }),
			turn(keyless(d, 4), func(k *api.Kid) { k.Live, k.Size = 1<<20, 1<<20 }),
			turn(keyless(d, 4), func(k *api.Kid) { k.Box.Hi = k.Box.Lo }),
			turn(lifeless(5), func(k *api.Kid) { k.Box = api.Box{Lo: api.Row{}, Hi: api.Row{}} }),
		} {
			for _, numbers := range []int{0, 1, d, d + 1, 300} {
				if k.Key = row(numbers, 1); !node.KidRight(k, d) {
					t.Errorf("%d dimensions: it may not be: %+v", d, k)
				}
			}
			for _, other := range dims {
				if got, want := node.KidRight(k, other), k.Live == 0 || other == d; got != want {
					t.Errorf("a kid of %d dimensions, as one of %d: %t", d, other, got)
				}
			}
		}
	}
	for _, d := range dims {
		if !node.KidRight(api.Kid{}, d) || !node.KidRight(api.Kid{Box: api.Box{Lo: api.Row{}, Hi: api.Row{}}, Key: api.Row{}}, d) {
			t.Errorf("%d dimensions: the empty tree may not be", d)
		}
	}
	for _, d := range []int{0, 9, 10, 256} {
		if node.KidRight(keyless(d, 1), d) {
			t.Errorf("a box of %d dimensions", d)
		}
	}
}

// P10.1: the empty tree, and kids that are unlike it in one part.
func TestEmpty(t *testing.T) {
	for i, k := range []api.Kid{{}, {Key: api.Row{}}, {Box: api.Box{Lo: api.Row{}}}, {Box: api.Box{Hi: make(api.Row, 0, 5)}}} {
		if !node.Empty(k) {
			t.Errorf("kid %d isn't the empty tree", i)
		}
		for _, o := range others(k) {
			if node.Empty(o.kid) {
				t.Errorf("kid %d of another %s is the empty tree", i, o.what)
			}
		}
	}
	for d := 1; d <= 8; d++ {
		for _, k := range []api.Kid{keyless(d, 1), lifeless(2), keyed(keyless(d, 3), d, 3)} {
			if node.Empty(k) {
				t.Errorf("the empty tree: %+v", k)
			}
		}
	}
}

// P10.1: kids that are the same, with lists of their own, and kids that are unlike in one part; both ways round.
func TestSame(t *testing.T) {
	for d := 1; d <= 8; d++ {
		for _, k := range []api.Kid{{}, keyless(d, 1), lifeless(2), keyed(keyless(d, 3), d, 3), keyed(lifeless(4), d, 4), {Live: -3, Size: -7, Box: api.Box{Lo: row(3, 1)}}} {
			if !node.Same(k, k) || !node.Same(k, copyKid(k)) || !node.Same(copyKid(k), k) {
				t.Errorf("not the same as itself: %+v", k)
			}
			for _, o := range others(k) {
				if node.Same(k, o.kid) || node.Same(o.kid, k) {
					t.Errorf("the same, with another %s: %+v", o.what, k)
				}
				if !node.Same(o.kid, copyKid(o.kid)) {
					t.Errorf("not the same as itself: %+v", o.kid)
				}
			}
		}
	}
	a := api.Kid{Box: api.Box{Lo: api.Row{}, Hi: nil}, Key: api.Row{}}
	b := api.Kid{Box: api.Box{Lo: nil, Hi: api.Row{}}}
	if !node.Same(a, b) || !node.Same(b, a) || !node.Same(a, api.Kid{}) {
		t.Error("an empty list is none")
	}
}

// P10.1: nodes of chance, many of which may not be, against the chapter's words.
func TestRightByChance(t *testing.T) {
	random := rand.New(rand.NewSource(1))
	right := 0
	for range 30000 {
		d := 1 + random.Intn(8)
		n := anyNode(random, d)
		for range random.Intn(3) {
			n, d = ruined(random, n, d)
		}
		want := mayBe(n, d)
		right += one(want)
		if got := node.Right(n, d); got != want {
			t.Fatalf("%d dimensions: %t: %+v", d, got, n)
		}
		for _, k := range n.Kids {
			if got := node.KidRight(k, d); got != kidMayBe(k, d) {
				t.Fatalf("%d dimensions: %t: %+v", d, got, k)
			}
		}
	}
	if right < 8000 || right > 22000 {
		t.Errorf("%d of 30000 may be", right)
	}
}

// ruined turns something of a node, or its dimension.
func ruined(random *rand.Rand, n api.Node, d int) (api.Node, int) {
	switch random.Intn(8) {
	case 0:
		n.Kind = byte(random.Intn(5))
	case 1:
		d += random.Intn(3) - 1
	case 2:
		n.Rows = append(n.Rows, live(numbers(random, d)))
	case 3:
		n.Kids = append(n.Kids, keyed(anyKid(random, d), d, 1))
	case 4:
		if len(n.Rows) > 0 {
			n.Rows = n.Rows[1:]
		}
	case 5:
		if len(n.Kids) > 0 {
			n.Kids = n.Kids[1:]
		}
	case 6:
		if len(n.Rows) > 0 {
			n.Rows[random.Intn(len(n.Rows))].Live = false
		}
	case 7:
		if len(n.Kids) > 0 {
			i := random.Intn(len(n.Kids))
			l := others(n.Kids[i])
			n.Kids[i] = l[random.Intn(len(l))].kid
		}
	}
	return n, d
}
