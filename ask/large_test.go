package ask_test

import (
	"runtime/debug"
	"testing"

	"indenture/api"
	"indenture/ask"
	"indenture/page"
)

// deep tells a tree that nobody's call made: nodes, each below another one, as its first kid or its last one; its rows are the numbers from 0 on, the greatest one above all or below all.
func deep(t *testing.T, s *page.Store, forks bool, levels int64, first bool) api.Kid {
	t.Helper()
	one := func(x int64) api.Kid { return put(t, s, 1, leaf(api.Row{x})) }
	var k api.Kid
	if !forks {
		k = one(levels)
		if first {
			k = one(0)
		}
	}
	for i := int64(1); i <= levels; i++ {
		at := levels - i
		if first {
			at = i
		}
		kids := []api.Kid{{}, k}
		if !forks {
			kids[0] = one(at)
		}
		if first {
			kids[0], kids[1] = kids[1], kids[0]
		}
		n := api.Node{Kind: api.Inner, Kids: kids}
		if forks {
			n = fork(api.Row{at}, true, kids[0], kids[1])
		}
		k = put(t, s, 1, n)
	}
	return k
}

// P14.3: nodes that anybody made, each below another one, as deep as may be, are gone through to their end. What the stack may have is cut with the tree's share of what there may be.
func TestDeep(t *testing.T) {
	const levels = api.MaxBytes / 32
	defer debug.SetMaxStack(debug.SetMaxStack(1000000000 / 32))
	for _, forks := range []bool{false, true} {
		for _, first := range []bool{false, true} {
			s := page.New()
			k := deep(t, s, forks, levels, first)
			rows := int(levels) + 1
			nodes := 2*rows - 1
			if forks {
				rows, nodes = rows-1, rows-1
			}
			if a, got, err := ask.Tree(s, k, api.Query{Box: whole(1), Limit: -1}, 1); len(a.Rows) != rows || got != nodes || err != api.OK || a.Rows[rows-1][0]-a.Rows[0][0] != int64(rows)-1 {
				t.Errorf("%d rows, %d nodes, error %d", len(a.Rows), got, err)
			}
			for _, kind := range []byte{api.ById, api.Fall} {
				if a, got, err := ask.Tree(s, k, api.Query{Box: whole(1), Order: api.Order{Kind: kind}, Limit: 1000}, 1); len(a.Rows) != 1000 || got < 1000 || got > nodes || err != api.OK {
					t.Errorf("%d rows, %d nodes, error %d", len(a.Rows), got, err)
				}
			}
			from := api.Box{Lo: api.Row{levels / 2}, Hi: api.Row{levels / 2}}
			if a, got, err := ask.Tree(s, k, api.Query{Box: from, Count: true}, 1); a.Count != 1 || got < levels/2-1 || got > nodes || err != api.OK {
				t.Errorf("%+v, %d nodes, error %d", a, got, err)
			}
		}
	}
}

// P14.3: a tree of MaxBytes rows by its kids' words, of which most nodes aren't there: those that aren't needed needn't be, and those that the box holds are counted.
func TestFullByWords(t *testing.T) {
	for _, forks := range []bool{false, true} {
		s := page.New()
		row := func(x int64) api.Row { return api.Row{x, x} }
		closed := api.Kid{Sum: api.Digest{9}, Live: api.MaxBytes - 2, Size: api.MaxBytes - 2, Box: span(row(8), row(99))}
		n := fork(row(5), true, put(t, s, 2, fork(row(1), true, api.Kid{}, api.Kid{})), closed)
		if !forks {
			closed.Key = row(8)
			n = api.Node{Kind: api.Inner, Kids: []api.Kid{put(t, s, 2, leaf(row(1), row(5))), closed}}
		}
		x := &tree{kinds[0], s, put(t, s, 2, n), 2, nil}
		if x.kid.Size != api.MaxBytes || x.kid.Live != api.MaxBytes {
			t.Fatalf("%+v", x.kid)
		}
		both := api.Answer{Rows: []api.Row{row(1), row(5)}}
		x.knows(t, []known{
			{api.Query{Box: whole(2), Limit: 2}, both, 2},
			{api.Query{Box: span(row(0), row(7)), Limit: -1}, both, 2},
			{api.Query{Box: span(row(0), row(7)), Limit: 1000}, both, 2},
			{api.Query{Box: whole(2), Count: true}, api.Answer{Count: api.MaxBytes}, 0},
			{api.Query{Box: span(row(8), row(99)), Count: true}, api.Answer{Count: api.MaxBytes - 2}, 1},
			{api.Query{Box: span(row(2), row(99)), Count: true}, api.Answer{Count: api.MaxBytes - 1}, 2 - count(forks)},
		})
		for _, q := range []api.Query{{Box: whole(2), Limit: 3}, {Box: whole(2), Limit: -1}, {Box: span(row(0), row(8)), Limit: -1}, {Box: span(row(0), row(98)), Count: true}} {
			treeRefused(t, s, x.kid, q, 2, api.ErrForm)
		}
	}
}

func count(is bool) int {
	if is {
		return 1
	}
	return 0
}
