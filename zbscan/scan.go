package zbscan

import (
	"indenture/api"
	"indenture/box"
	"indenture/morton"
	"indenture/zrange"
)

// scan is a scan of a tree, under way.
type scan struct {
	walk   walk
	box    api.Box
	code   []byte    // in the box; the rows with lesser codes are done
	rows   []api.Row // that were found
	looked int       // how many rows were looked at
}

// by scans a tree by boxes one by one. These stand in order, so that the walk goes on from one to the next: the row at which a box ends is left.
func (s *scan) by(k api.Kid, boxes ...api.Box) api.Errno {
	err := s.walk.begin(k)
	for _, b := range boxes {
		s.box = b
		s.code, _ = morton.Code(b.Lo) // the first code in the box
		for more := true; more && err == api.OK; {
			more, err = s.step()
		}
	}
	return err
}

// step looks at the next row, and tells whether there may be another one.
func (s *scan) step() (bool, api.Errno) {
	p, _ := morton.Point(s.code, s.walk.dims)
	r, ok, err := s.walk.first(p)
	if !ok {
		return false, err
	}
	s.looked++
	c, _ := morton.Code(r)
	if box.Has(s.box, r) {
		s.rows = append(s.rows, r)
		c, _ = morton.Next(c) // behind the last code of all there is none, from which Skip tells none
	}
	s.code, ok = zrange.Skip(c, s.box)
	return ok, api.OK
}
