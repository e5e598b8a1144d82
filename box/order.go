package box

import (
	"cmp"
	"math"
	"slices"

	"indenture/api"
	"indenture/dist"
)

// place is where a row stands in an order, or the first row that a box may have.
type place struct {
	key api.Dist
	id  int64
}

// placed is a row with its place.
type placed struct {
	place
	row api.Row
}

// OrderRight tells whether an order is right for d dimensions.
func OrderRight(o api.Order, d int) bool {
	if !dimensions(d) {
		return false
	}
	switch o.Kind {
	case api.ById:
		return o.Col == 0 && len(o.At) == 0
	case api.Rising:
		return o.Col >= 1 && o.Col < d && len(o.At) == 0
	case api.Fall:
		return o.Col >= 0 && o.Col < d && len(o.At) == 0
	case api.Near:
		return o.Col == 0 && len(o.At) == d-1 && d >= 2
	}
	return false
}

// Key tells the key of a row in an order.
func Key(o api.Order, p api.Row) (api.Dist, api.Errno) {
	if !OrderRight(o, len(p)) {
		return api.Dist{}, api.ErrArg
	}
	return leastKey(o, p, p), api.OK
}

// Ahead tells whether p is ahead of q.
func Ahead(o api.Order, p, q api.Row) bool {
	if !OrderRight(o, len(p)) || len(p) != len(q) {
		return false
	}
	return placeOf(o, p, p).compare(placeOf(o, q, q)) < 0
}

// Least tells the least key of the points in a box, and the least id.
func Least(o api.Order, b api.Box) (api.Dist, int64, api.Errno) {
	if !bounds(o, b) {
		return api.Dist{}, 0, api.ErrArg
	}
	first := placeOf(o, b.Lo, b.Hi)
	return first.key, first.id, api.OK
}

// Beyond tells whether all rows of a box are surely behind p.
func Beyond(o api.Order, b api.Box, p api.Row) bool {
	if !bounds(o, b) || len(p) != len(b.Lo) {
		return false
	}
	return placeOf(o, p, p).compare(placeOf(o, b.Lo, b.Hi)) < 0
}

// Sort tells the rows, those ahead first. Those of one place stay as they stood.
func Sort(o api.Order, l []api.Row) []api.Row {
	rows := make([]placed, len(l))
	for i, p := range l {
		if !OrderRight(o, len(p)) || len(p) != len(l[0]) {
			return nil
		}
		rows[i] = placed{placeOf(o, p, p), p}
	}
	slices.SortStableFunc(rows, func(a, b placed) int { return a.compare(b.place) })
	sorted := make([]api.Row, len(rows))
	for i, r := range rows {
		sorted[i] = slices.Clone(r.row)
	}
	return sorted
}

// bounds tells whether a box is right, and the order for its dimensions.
func bounds(o api.Order, b api.Box) bool {
	return Right(b, len(b.Lo)) && OrderRight(o, len(b.Lo))
}

// placeOf tells the least key and the least id of the rows from lo to hi, for which the order is right. It takes corners instead of a box, since those of a row's own are the row twice.
func placeOf(o api.Order, lo, hi api.Row) place {
	return place{leastKey(o, lo, hi), lo[0]}
}

// compare tells by -1, 0 or 1 whether a is ahead of b, the same, or behind.
func (a place) compare(b place) int {
	if c := dist.Cmp(a.key, b.key); c != 0 {
		return c
	}
	return cmp.Compare(a.id, b.id)
}

// leastKey tells the least key of the rows from lo to hi, for which the order is right. A number and 2^63 together is how far it is from the least number, 2^63 - 1 less a number how far from the greatest one: so nothing overflows.
func leastKey(o api.Order, lo, hi api.Row) api.Dist {
	switch o.Kind {
	case api.ById, api.Rising:
		return api.Dist{Lo: dist.Apart(lo[o.Col], math.MinInt64)}
	case api.Fall:
		return api.Dist{Lo: dist.Apart(hi[o.Col], math.MaxInt64)}
	case api.Near:
		d, _ := dist.ToBox(o.At, api.Box{Lo: lo[1:], Hi: hi[1:]})
		return d
	}
	return api.Dist{}
}
