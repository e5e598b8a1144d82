package page_test

import (
	"bytes"
	"crypto/sha256"
	"encoding/binary"
	"slices"
	"testing"

	"indenture/api"
	"indenture/page"
)

// lengths: of no byte, of one, those about which a preimage (nine bytes longer) or its text fills SHA-256's blocks, those whose count of bytes needs more than one, some thousand.
var lengths = []int{0, 1, 2, 44, 45, 46, 47, 48, 54, 55, 56, 57, 58, 59, 60, 61, 62, 63, 64, 65, 110, 111, 112, 118, 119, 120, 255, 256, 257, 1000, 4096, 5003, 65536}

// text tells n bytes; of unlike kinds they are unlike.
func text(n int, kind byte) []byte {
	b := make([]byte, n)
	for i := range b {
		b[i] = byte(i*7) + byte(i>>8) + kind*31
	}
	return b
}

// preimage puts a page's preimage together by its words.
func preimage(b []byte) []byte {
	return append(binary.BigEndian.AppendUint64([]byte{80}, uint64(len(b))), b...)
}

// sum tells a page's sum, by another SHA-256.
func sum(b []byte) api.Digest { return sha256.Sum256(preimage(b)) }

// sums tells the sums of texts, in the texts' order.
func sums(texts ...[]byte) []api.Digest {
	var l []api.Digest
	for _, b := range texts {
		l = append(l, sum(b))
	}
	return l
}

// turned tells a sum of which one bit is another.
func turned(d api.Digest, bit int) api.Digest {
	d[bit/8] ^= 1 << (bit % 8)
	return d
}

// spoil writes over all bytes of b, its spare room too.
func spoil(b []byte) {
	for i := range b[:cap(b)] {
		b[:cap(b)][i] ^= 0xa5
	}
}

// model is a store by its words: a plain list of texts, each once.
type model [][]byte

// at tells where the text with that sum stands, or -1.
func (m model) at(d api.Digest) int {
	return slices.IndexFunc(m, func(b []byte) bool { return sum(b) == d })
}

// with is the list with one text more, or the same, if it has it.
func (m model) with(b []byte) model {
	if slices.ContainsFunc(m, func(a []byte) bool { return bytes.Equal(a, b) }) {
		return m
	}
	return append(slices.Clip(m), bytes.Clone(b))
}

// only is the list of those texts whose sums stand in l.
func (m model) only(l []api.Digest) model {
	var left model
	for _, b := range m {
		if slices.Contains(l, sum(b)) {
			left = append(left, b)
		}
	}
	return left
}

// filled tells a store to which those texts were put, and its model.
func filled(t *testing.T, texts ...[]byte) (*page.Store, model) {
	t.Helper()
	s, m := page.New(), model(nil)
	for _, b := range texts {
		m = m.with(b)
		put(t, s, b)
	}
	return s, m
}

// put puts a text, whose sum must be told.
func put(t *testing.T, s *page.Store, b []byte) {
	t.Helper()
	if d := s.Put(b); d != sum(b) {
		t.Errorf("Put of %d bytes: %x, not %x", len(b), d, sum(b))
	}
}

// kept keeps a list's texts, which must give up just what the model gives up; what is told is the model of what is left.
func kept(t *testing.T, s *page.Store, m model, l []api.Digest, what ...any) model {
	t.Helper()
	left := m.only(l)
	if n := s.Keep(l); n != len(m)-len(left) {
		t.Errorf("Keep: %d, not %d: %v", n, len(m)-len(left), what)
	}
	return left
}

// there asks for a text that must be kept.
func there(t *testing.T, s *page.Store, b []byte, what ...any) {
	t.Helper()
	d := sum(b)
	if !s.Has(d) {
		t.Errorf("%d bytes aren't there: %v", len(b), what)
	}
	if got, err := s.Get(d); err != api.OK || !bytes.Equal(got, b) {
		t.Errorf("%d bytes, error %d, not %d bytes: %v", len(got), err, len(b), what)
	}
}

// lacks asks for a sum by which no text may be kept.
func lacks(t *testing.T, s *page.Store, d api.Digest, what ...any) {
	t.Helper()
	if s.Has(d) {
		t.Errorf("%x is there: %v", d, what)
	}
	if got, err := s.Get(d); err != api.ErrNone || len(got) != 0 {
		t.Errorf("%x: %d bytes, error %d: %v", d, len(got), err, what)
	}
}

// rises holds a list of sums against a model: all of its texts', each once, rising.
func rises(t *testing.T, l []api.Digest, m model, what ...any) {
	t.Helper()
	if len(l) != len(m) {
		t.Errorf("%d sums, not %d: %v", len(l), len(m), what)
	}
	for i, d := range l {
		if i > 0 && bytes.Compare(l[i-1][:], d[:]) >= 0 {
			t.Errorf("%x stands behind %x: %v", d, l[i-1], what)
		}
		if m.at(d) < 0 {
			t.Errorf("%x is no text's: %v", d, what)
		}
	}
}

// unclashed holds against a store that no two unlike texts with one sum were put to it.
func unclashed(t *testing.T, s *page.Store, what ...any) {
	t.Helper()
	if a, b, ok := s.Clash(); ok || len(a) != 0 || len(b) != 0 {
		t.Errorf("a clash of %q and %q, %t: %v", a, b, ok, what)
	}
}

// holds holds against a store what all its calls that turn nothing must tell.
func holds(t *testing.T, s *page.Store, m model, what ...any) {
	t.Helper()
	if s.Len() != len(m) {
		t.Errorf("Len: %d, not %d: %v", s.Len(), len(m), what)
	}
	rises(t, s.Sums(), m, what...)
	unclashed(t, s, what...)
	lacks(t, s, api.Digest{}, what...)
	for i, b := range m {
		there(t, s, b, what...)
		lacks(t, s, turned(sum(b), i%256), what...)
		lacks(t, s, sha256.Sum256(b), what...)
	}
}
