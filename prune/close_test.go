package prune_test

import (
	"math/rand"
	"slices"
	"testing"

	"indenture/api"
	"indenture/prune"
)

// left holds against a part what Close must leave of it.
func left(t *testing.T, p api.Part, keep []bool, want api.Part, what ...any) {
	t.Helper()
	if got := prune.Close(p, keep); !alike(got, want) {
		t.Errorf("Close: %d open ones, not those %d: %v", countOf(got), countOf(want), what)
	}
}

// choice tells which of so many numbers a choice holds of.
func choice(bits, count int) []bool {
	keep := make([]bool, count)
	for i := range keep {
		keep[i] = bits>>i&1 == 1
	}
	return keep
}

// none and all tell a keep that holds of none, or of all, of so many.
func none(count int) []bool { return make([]bool, count) }
func all(count int) []bool  { return slices.Repeat([]bool{true}, count) }

// P15.3: a known part: the root, a leaf, and one with others below it closed; one that stays by its own number, but whose way down is closed, is closed.
func TestCloseKnown(t *testing.T) {
	a, b, c, d := leaf(row(1, 1)), fork(live(row(1, 2)), kid(1, 1), kid(1, 2)), inner(keyed(1, 1), keyed(1, 2), keyed(1, 3)), leaf(row(1, 4), row(1, 5))
	p := opened(c, opened(b, shut(a), shut(d)), api.Part{}, opened(b, api.Part{}, shut(d))) // 0 above 1 above 2 and 3, and above 4 above 5
	for i, x := range []struct {
		keep []bool
		want api.Part
	}{
		{all(6), p},
		{all(7), p},
		{all(100), p},
		{nil, api.Part{}},
		{none(6), api.Part{}},
		{all(1), shut(c)},
		{all(2), opened(c, shut(b), api.Part{}, api.Part{})},
		{all(3), opened(c, opened(b, shut(a), api.Part{}), api.Part{}, api.Part{})},
		{all(4), opened(c, opened(b, shut(a), shut(d)), api.Part{}, api.Part{})},
		{all(5), opened(c, opened(b, shut(a), shut(d)), api.Part{}, shut(b))},
		{[]bool{false, true, true, true, true, true}, api.Part{}},
		{[]bool{true, false, true, true, true, true}, opened(c, api.Part{}, api.Part{}, opened(b, api.Part{}, shut(d)))},
		{[]bool{true, true, false, true, true, true}, opened(c, opened(b, api.Part{}, shut(d)), api.Part{}, opened(b, api.Part{}, shut(d)))},
		{[]bool{true, true, true, false, true, true}, opened(c, opened(b, shut(a), api.Part{}), api.Part{}, opened(b, api.Part{}, shut(d)))},
		{[]bool{true, true, true, true, false, true}, opened(c, opened(b, shut(a), shut(d)), api.Part{}, api.Part{})},
		{[]bool{true, true, true, true, true, false}, opened(c, opened(b, shut(a), shut(d)), api.Part{}, shut(b))},
		{[]bool{true, false, true, true, false, true}, shut(c)},
		{[]bool{true, false, false, false, true, true}, opened(c, api.Part{}, api.Part{}, opened(b, api.Part{}, shut(d)))},
		{[]bool{true, false, true, false, true}, opened(c, api.Part{}, api.Part{}, shut(b))},
		{[]bool{true, false, true, false, true, true, false, true}, opened(c, api.Part{}, api.Part{}, opened(b, api.Part{}, shut(d)))},
	} {
		left(t, p, x.keep, x.want, i)
	}
}

// P15.3: a closed part stays, an open one that has none below it stays or is closed.
func TestCloseSmall(t *testing.T) {
	for _, keep := range [][]bool{nil, {}, {true}, {false}, {true, true}, {true, false}, {false, true}, all(100), none(100)} {
		stays := len(keep) > 0 && keep[0]
		left(t, api.Part{}, keep, api.Part{}, keep)
		left(t, api.Part{Parts: []api.Part{}}, keep, api.Part{}, keep)
		for i, p := range good(3)[1:7] {
			if stays {
				left(t, p, keep, p, i, keep)
			} else {
				left(t, p, keep, api.Part{}, i, keep)
			}
		}
	}
}

// P15.3: each choice of numbers, of each form of few open ones, with a keep that is as long, shorter and longer.
func TestCloseChoices(t *testing.T) {
	for count := range 6 {
		for i, p := range forms(count) {
			for bits := range 1 << (count + 1) {
				for _, length := range []int{count - 1, count, count + 1} {
					keep := choice(bits, max(length, 0))
					left(t, p, keep, closedBut(p, keep, 0), count, i, keep)
				}
			}
		}
	}
}

// P15.3: parts of each kind and of chance, with choices of chance, of any length; what is left may be, where the part may be.
func TestCloseByChance(t *testing.T) {
	random := rand.New(rand.NewSource(1))
	for range 20000 {
		d := 1 + random.Intn(8)
		p := anyPart(random, d, 1+random.Intn(7))
		if random.Intn(3) == 0 {
			l := good(d)
			p = l[random.Intn(len(l))]
		}
		keep := make([]bool, random.Intn(countOf(p)+3))
		for i := range keep {
			keep[i] = random.Intn(8) > 0
		}
		want := closedBut(p, keep, 0)
		left(t, p, keep, want, p, keep)
		if !mayBe(want, d) || !prune.Right(prune.Close(p, keep), d) {
			t.Errorf("what is left may not be: %+v", want)
		}
	}
}

// P15.3: what is left when one number is closed hasn't just those that were below it, each as it was.
func TestCloseOne(t *testing.T) {
	p := over(1, 7, sized(1, 9, 2), over(1, 2, sized(1, 7, 3), sized(1, 5, 2)), sized(1, 12, 4))
	nodes := nodesOf(p)
	for number, at := range open(&p) {
		below := countOf(*at)
		keep := all(len(nodes))
		keep[number] = false
		got := nodesOf(prune.Close(p, keep))
		want := slices.Concat(nodes[:number], nodes[number+below:])
		if !slices.EqualFunc(got, want, alikeNodes) {
			t.Errorf("%d: %d nodes, not those %d", number, len(got), len(want))
		}
	}
}

// P15.3: numbers are those in the part, not in what is left: closing one by one leaves as much as closing all at once just where no lesser number is closed ahead.
func TestCloseAgain(t *testing.T) {
	random := rand.New(rand.NewSource(2))
	for range 2000 {
		p := anyPart(random, 2, 6)
		n := countOf(p)
		one := all(n)
		for i := range one {
			one[i] = random.Intn(4) > 0
		}
		both := slices.Clone(one)
		got := p
		for i := n - 1; i >= 0; i-- { // from the last one on numbers stay
			if !one[i] {
				keep := all(n)
				keep[i] = false
				got = prune.Close(got, keep)
			}
		}
		left(t, p, both, got, p, both)
		left(t, got, all(n), got, p)
	}
}

// P15.3: parts of 4096 open ones and of more, and parts 64 deep and deeper: all but some.
func TestCloseMany(t *testing.T) {
	for i, p := range []api.Part{sized(1, 4096, 4), sized(1, 20000, 2), bushy(1, 4096, 64), chain(1, 64, 2, 0), chain(1, 1000, 3, 2)} {
		n := countOf(p)
		left(t, p, all(n), p, i)
		left(t, p, nil, api.Part{}, i)
		for _, at := range []int{0, 1, 2, 40, 63, n / 2, n - 2, n - 1} {
			keep := all(n)
			keep[at] = false
			left(t, p, keep, closedBut(p, keep, 0), i, at)
			left(t, p, keep[:at], closedBut(p, keep[:at], 0), i, at)
			keep = all(n - 1)
			keep[at*(n-2)/n] = false
			left(t, p, keep, closedBut(p, keep, 0), i, at)
		}
	}
}

// P15.3: open ones whose nodes may not be, or that have other Parts than their nodes have kids, are closed, or stay as they are, like others.
func TestCloseWrongParts(t *testing.T) {
	one := shut(leaf(row(1, 1)))
	for i, p := range []api.Part{
		{Open: true}, {Open: true, Parts: make([]api.Part, 3)}, {Open: true, Node: api.Node{Kind: 9}}, opened(leaf(row(1, 1)), one, api.Part{}, one), opened(api.Node{}, one),
		opened(fork(live(row(1, 1)), api.Kid{}, api.Kid{}), one, one), opened(fork(live(row(1, 1)), kid(1, 1), kid(1, 2)), one, one, one, opened(leaf(), one)),
	} {
		n := countOf(p)
		for bits := range 1 << n {
			keep := choice(bits, n)
			left(t, p, keep, closedBut(p, keep, 0), i, keep)
		}
	}
}
