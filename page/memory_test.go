package page_test

import (
	"bytes"
	"slices"
	"testing"

	"indenture/api"
	"indenture/page"
)

// P9.2, P9.5: a text that is put stays as it was, its spare room too, and may be written over then; also where it is kept already.
func TestPutLeavesText(t *testing.T) {
	for _, n := range lengths {
		for _, spare := range []int{0, 1, 9, 64} {
			whole := slices.Clip(text(n+spare, 1))
			was := bytes.Clone(whole)
			s := page.New()
			for range 2 {
				put(t, s, whole[:n])
				if !bytes.Equal(whole, was) {
					t.Fatalf("%d bytes, %d of spare room: they turned", n, spare)
				}
				spoil(whole)
				holds(t, s, model{was[:n]}, n, spare)
				copy(whole, was)
			}
		}
	}
}

// P9.2, P9.5: one list of bytes for all texts: each is kept as it was when it was put.
func TestPutFromOneList(t *testing.T) {
	room := make([]byte, 300)
	s, m := page.New(), model(nil)
	for _, b := range texts(60) {
		m = m.with(b)
		put(t, s, room[:copy(room, b)])
		spoil(room)
		holds(t, s, m)
	}
}

// P9.1, P9.2, P9.5: a text that was got, and its preimage, may be written over, their spare room too; another one that was got stays, whatever comes.
func TestGotWrittenOver(t *testing.T) {
	s, m := filled(t, texts(40)...)
	for _, b := range m {
		one, _ := s.Get(sum(b))
		two, _ := s.Get(sum(b))
		spoil(page.Preimage(one))
		if !bytes.Equal(one, b) {
			t.Errorf("%d bytes turned with their preimage", len(b))
		}
		spoil(one)
		_ = append(one, 1, 2, 3)
		if !bytes.Equal(two, b) {
			t.Errorf("%d bytes turned with others", len(b))
		}
		holds(t, s, m, len(b))
		s.Keep(nil)
		if !bytes.Equal(two, b) {
			t.Errorf("%d bytes that were given up turned", len(b))
		}
		s, m = filled(t, m...)
	}
}

// P9.3: a list of sums that was told may be written over, its spare room too; it stays as it was, whatever comes.
func TestSumsWrittenOver(t *testing.T) {
	s, m := filled(t, texts(9)...)
	one, two := s.Sums(), s.Sums()
	was := slices.Clone(one)
	clear(one[:cap(one)])
	if !slices.Equal(two, was) {
		t.Error("another list turned")
	}
	holds(t, s, m)
	put(t, s, []byte("another"))
	s.Keep(nil)
	if !slices.Equal(two, was) {
		t.Error("a list turned with its store")
	}
	put(t, s, []byte("a third"))
	_ = append(two[:0], s.Sums()...)
	holds(t, s, model{[]byte("a third")})
}

// P9.3: a list that is handed to Keep stays as it was, its spare room too, in whatever order, and may be written over then.
func TestKeepLeavesList(t *testing.T) {
	all := texts(12)
	l := append(sums(all[5], all[2], all[9], all[2]), strangers()...)
	for n := range len(l) + 1 {
		whole := slices.Clone(l)
		s, m := filled(t, all...)
		m = kept(t, s, m, whole[:n], n)
		if !slices.Equal(whole, l) {
			t.Errorf("the list turned: %d", n)
		}
		clear(whole)
		holds(t, s, m, n)
		whole[0] = api.Digest{1}
		put(t, s, all[0])
		holds(t, s, m.with(all[0]), n)
	}
}
