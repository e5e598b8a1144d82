package ask

import (
	"slices"

	"indenture/api"
	"indenture/box"
)

// known is what is known so far of the answer to a query by a tree.
type known struct {
	query api.Query
	rows  []api.Row // of a query with a Limit the first ones so far, in order; of one without all so far
	count int       // of a query that counts
}

// add takes a row that is in the query's box.
func (x *known) add(r api.Row) {
	limit := x.query.Limit
	switch {
	case x.query.Count:
		x.count++
	case limit == -1:
		x.rows = append(x.rows, r)
	default:
		at, _ := slices.BinarySearchFunc(x.rows, r, x.compare)
		x.rows = slices.Insert(x.rows, at, r)
		x.rows = x.rows[:min(limit, len(x.rows))]
	}
}

// whole takes a tree that isn't open to the query. Of one all of whose rows are in the box it is known how many they are.
func (x *known) whole(k api.Kid) {
	if x.query.Count && box.Holds(x.query.Box, k.Box) {
		x.count += k.Live
	}
}

// past tells whether no row of a tree is among the first ones, whatever it has.
func (x *known) past(k api.Kid) bool {
	limit := x.query.Limit
	return limit > 0 && len(x.rows) == limit && Past(x.query, k, x.rows[limit-1])
}

// compare tells how rows stand to one another in the order. Those of one id may be alike in it: their other numbers tell then, since either tree comes to them in another way.
func (x *known) compare(a, b api.Row) int {
	switch o := x.query.Order; {
	case box.Ahead(o, a, b):
		return -1
	case box.Ahead(o, b, a):
		return 1
	}
	return slices.Compare(a, b)
}

// answer tells the answer. Rows that are alike in the order stay as they stand, which is as compare has them.
func (x *known) answer() api.Answer {
	if x.query.Count {
		return api.Answer{Count: x.count}
	}
	slices.SortFunc(x.rows, slices.Compare[api.Row])
	a, _ := Of(x.rows, x.query)
	return a
}
