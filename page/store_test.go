package page_test

import (
	"encoding/binary"
	"math/rand"
	"slices"
	"testing"

	"indenture/api"
	"indenture/page"
)

// texts tells n unlike texts of many lengths, the first one of no byte; the number at each other one's end is its own.
func texts(n int) [][]byte {
	var l [][]byte
	for i := range n {
		l = append(l, binary.BigEndian.AppendUint16(text(i*13%130, 1), uint16(i)))
	}
	if n > 0 {
		l[0] = nil
	}
	return l
}

// P9.2, P9.3: a new store has no pages; no two are one. The zero one has none either, and takes some.
func TestNew(t *testing.T) {
	s := page.New()
	holds(t, s, nil)
	lacks(t, s, sum(nil))
	lacks(t, s, sum([]byte("ab")))
	if s == page.New() {
		t.Error("one store twice")
	}
	zero := new(page.Store)
	holds(t, zero, nil)
	kept(t, zero, nil, sums(nil))
	put(t, zero, []byte("ab"))
	holds(t, zero, model{[]byte("ab")})
}

// The chapter's examples.
func TestExamples(t *testing.T) {
	s := page.New()
	d := s.Put([]byte("ab"))
	b, err := s.Get(d)
	if d != page.Sum([]byte("ab")) || string(b) != "ab" || err != api.OK || s.Len() != 1 {
		t.Errorf("%x: %q, error %d, of %d", d, b, err, s.Len())
	}
	if again := s.Put([]byte("ab")); again != d || s.Len() != 1 {
		t.Errorf("%x again, of %d", again, s.Len())
	}
	if n := s.Keep(nil); n != 1 {
		t.Errorf("Keep: %d", n)
	}
	if b, err := s.Get(d); len(b) != 0 || err != api.ErrNone {
		t.Errorf("%q, error %d", b, err)
	}
}

// P9.2, P9.3: one text of each length, put once and again.
func TestPutOne(t *testing.T) {
	for _, n := range lengths {
		s, m := filled(t, text(n, 3))
		holds(t, s, m, n)
		put(t, s, text(n, 3))
		holds(t, s, m, n)
		if n > 0 {
			lacks(t, s, sum(text(n, 4)), n)
			lacks(t, s, sum(text(n-1, 3)), n)
		}
		lacks(t, s, sum(text(n+1, 3)), n)
	}
}

// P9.2: a text of no byte is a page like others, whether nil or empty; it is there, which no text isn't.
func TestPutEmpty(t *testing.T) {
	for _, b := range [][]byte{nil, {}} {
		s := page.New()
		lacks(t, s, sum(b))
		put(t, s, b)
		there(t, s, b)
		for _, again := range [][]byte{nil, {}, make([]byte, 0, 9)} {
			put(t, s, again)
			holds(t, s, model{nil})
		}
		put(t, s, []byte{0})
		holds(t, s, model{nil, {0}})
		if n := s.Keep(sums([]byte{0})); n != 1 {
			t.Errorf("%d given up", n)
		}
		holds(t, s, model{{0}})
		lacks(t, s, sum(b))
	}
}

// P9.2, P9.3: many texts, each put twice, in either order: all are got, at each step.
func TestPutMany(t *testing.T) {
	l := texts(150)
	for range 2 {
		s, m := page.New(), model(nil)
		for i, b := range l {
			put(t, s, b)
			m = m.with(b)
			put(t, s, l[i/2])
			holds(t, s, m, i)
		}
		if s.Len() != len(l) {
			t.Error(s.Len(), "texts")
		}
		slices.Reverse(l)
	}
}

// P9.2: a sum of which one bit is another is no page's, whichever bit that is.
func TestTurnedSums(t *testing.T) {
	s, m := filled(t, texts(10)...)
	for _, b := range m {
		for bit := range 256 {
			lacks(t, s, turned(sum(b), bit), bit)
		}
	}
}

// P9.3: the sums rise byte by byte, those whose first bytes are alike too, whatever the order in which their texts came; what is told is the same each time.
func TestSumsRise(t *testing.T) {
	l := texts(2000)
	s, m := filled(t, l...)
	first := s.Sums()
	rises(t, first, m)
	alike := 0
	for i, d := range first[1:] {
		if d[0] == first[i][0] && d[1] == first[i][1] {
			alike++
		}
	}
	if alike < 5 {
		t.Error("a weak test:", alike, "neighbours of which two bytes are alike")
	}
	random := rand.New(rand.NewSource(1))
	random.Shuffle(len(l), func(i, k int) { l[i], l[k] = l[k], l[i] })
	other, _ := filled(t, l...)
	for range 3 {
		if !slices.Equal(other.Sums(), first) || !slices.Equal(s.Sums(), first) {
			t.Error("another order")
		}
	}
}

// P9.5: two stores know nothing of each other.
func TestStoresApart(t *testing.T) {
	a, b := page.New(), page.New()
	put(t, a, []byte("one"))
	holds(t, b, nil)
	put(t, b, []byte("two"))
	put(t, b, []byte("one"))
	holds(t, a, model{[]byte("one")})
	kept(t, a, model{[]byte("one")}, nil)
	holds(t, a, nil)
	holds(t, b, model{[]byte("two"), []byte("one")})
	put(t, a, []byte("three"))
	kept(t, b, model{[]byte("two"), []byte("one")}, sums([]byte("two"), []byte("three")))
	holds(t, a, model{[]byte("three")})
	holds(t, b, model{[]byte("two")})
}
