package page

import (
	"bytes"
	"testing"

	"indenture/api"
)

// clashed tells a store that keeps another text by a text's sum, as if both had one: no two such texts are known.
func clashed(keeps, by string) *Store {
	s := New()
	s.add(Sum([]byte(by)), []byte(keeps))
	return s
}

// tells holds a store's clash against two texts.
func tells(t *testing.T, s *Store, kept, put string) {
	t.Helper()
	if a, b, ok := s.Clash(); string(a) != kept || string(b) != put || !ok {
		t.Errorf("%q, %q, %t, not %q, %q", a, b, ok, kept, put)
	}
}

// keeps holds against a store what is got by a text's sum.
func keeps(t *testing.T, s *Store, by, want string) {
	t.Helper()
	if b, err := s.Get(Sum([]byte(by))); string(b) != want || err != api.OK {
		t.Errorf("%q, error %d, not %q", b, err, want)
	}
}

// P9.2, P9.4: an unlike text with the same sum isn't kept, the one that is there stays; both are told, also those of no byte.
func TestClash(t *testing.T) {
	for _, c := range [][2]string{{"kept", "put"}, {"", "put"}, {"kept", ""}, {"put", "putt"}, {"same", "sane"}, {string(text(5000)), string(text(4999))}} {
		s := clashed(c[0], c[1])
		if a, b, ok := s.Clash(); ok || len(a) != 0 || len(b) != 0 {
			t.Errorf("%q, %q, %t ahead of any", a, b, ok)
		}
		for range 2 {
			if d := s.Put([]byte(c[1])); d != Sum([]byte(c[1])) {
				t.Errorf("%x of %q", d, c[1])
			}
			tells(t, s, c[0], c[1])
			keeps(t, s, c[1], c[0])
			if s.Len() != 1 || len(s.Sums()) != 1 || !s.Has(Sum([]byte(c[1]))) {
				t.Errorf("%d texts", s.Len())
			}
		}
	}
}

// text tells n bytes.
func text(n int) []byte {
	b := make([]byte, n)
	for i := range b {
		b[i] = byte(i * 7)
	}
	return b
}

// P9.4: the first two are told, whatever else clashes behind them, and when their page is given up, too.
func TestFirstClash(t *testing.T) {
	s := clashed("kept", "put")
	s.add(Sum([]byte("second")), []byte("other"))
	s.Put([]byte("none of them"))
	s.Put([]byte("put"))
	s.Put([]byte("second"))
	s.Put([]byte("none of them"))
	tells(t, s, "kept", "put")
	keeps(t, s, "second", "other")
	keeps(t, s, "none of them", "none of them")
	if n := s.Keep(nil); n != 3 {
		t.Errorf("%d given up", n)
	}
	tells(t, s, "kept", "put")
	s.Put([]byte("put"))
	s.Put([]byte("second"))
	keeps(t, s, "put", "put")
	keeps(t, s, "second", "second")
	tells(t, s, "kept", "put")
}

// P9.4: a text whose unlike one was given up ahead of it meets no kept one, so there is no clash.
func TestNoClashBehindKeep(t *testing.T) {
	s := clashed("kept", "put")
	s.Keep(nil)
	s.Put([]byte("put"))
	if _, _, ok := s.Clash(); ok {
		t.Error("a clash with a text that was given up")
	}
	keeps(t, s, "put", "put")
}

// The rule of memory: the text that was put, and both that are told, may be written over.
func TestClashWrittenOver(t *testing.T) {
	s := clashed("kept", "put")
	b := []byte("put")
	s.Put(b)
	clear(b)
	tells(t, s, "kept", "put")
	kept, put, _ := s.Clash()
	for _, l := range [][]byte{kept, put} {
		clear(l[:cap(l)])
		tells(t, s, "kept", "put")
		keeps(t, s, "put", "kept")
	}
	got, _ := s.Get(Sum([]byte("put")))
	clear(got)
	tells(t, s, "kept", "put")
	other, _, _ := s.Clash()
	if !bytes.Equal(other, []byte("kept")) {
		t.Errorf("%q", other)
	}
}
