package sha_test

import (
	"crypto/sha256"
	"testing"

	"indenture/sha"
)

// P1.2
func TestNothingWritten(t *testing.T) {
	var zero sha.State
	for name, s := range map[string]*sha.State{"zero": &zero, "New": sha.New()} {
		for range 2 {
			if s.Done() != sha.Sum(nil) || s.Len() != 0 {
				t.Errorf("%s: %x of %d bytes", name, s.Done(), s.Len())
			}
			s.Write(nil)
			s.Write([]byte{})
		}
	}
}

// P1.2: the zero value and what New gives are told apart by nothing.
func TestZeroIsUnderWay(t *testing.T) {
	for _, n := range edges {
		var zero sha.State
		made := sha.New()
		zero.Write(text(n))
		made.Write(text(n))
		if zero.Done() != sha256.Sum256(text(n)) || made.Done() != zero.Done() || zero.Len() != uint64(n) || made.Len() != uint64(n) {
			t.Errorf("%d bytes: %x of %d, %x of %d", n, zero.Done(), zero.Len(), made.Done(), made.Len())
		}
	}
}

// P1.2, P1.5: wherever a text is cut in three, its sum is that of the whole.
func TestPieces(t *testing.T) {
	for _, n := range edges[:len(edges)-1] {
		whole := text(n)
		want := sha256.Sum256(whole)
		for i := 0; i <= n; i++ {
			for _, j := range []int{i, (i + n) / 2, n} {
				s := sha.New()
				for _, piece := range [][]byte{whole[:i], whole[i:j], whole[j:]} {
					s.Write(piece)
				}
				if s.Done() != want || s.Len() != uint64(n) {
					t.Fatalf("%d bytes cut at %d and %d: %x of %d", n, i, j, s.Done(), s.Len())
				}
			}
		}
	}
}

// P1.2, P1.5: pieces of one size, from one byte to more than two blocks.
func TestManyPieces(t *testing.T) {
	whole := text(1000)
	for size := 1; size <= 150; size++ {
		s := sha.New()
		for i := 0; i < len(whole); i += size {
			s.Write(whole[i:min(i+size, len(whole))])
			s.Write(nil)
		}
		if s.Done() != sha256.Sum256(whole) || s.Len() != 1000 {
			t.Errorf("pieces of %d: %x of %d", size, s.Done(), s.Len())
		}
	}
}

// P1.2: Done may be asked anywhere, and the sum goes on behind it.
func TestGoingOnBehindDone(t *testing.T) {
	whole := text(300)
	for size := 1; size <= 70; size++ {
		s := sha.New()
		for i := 0; i < len(whole); i += size {
			end := min(i+size, len(whole))
			s.Write(whole[i:end])
			want := sha256.Sum256(whole[:end])
			if s.Done() != want || s.Done() != want || s.Len() != uint64(end) {
				t.Fatalf("pieces of %d, at %d: %x of %d", size, end, s.Done(), s.Len())
			}
		}
	}
}

// P1.2: what was written isn't kept as the caller's own, nor changed.
func TestWriteLeavesItsText(t *testing.T) {
	for _, n := range edges {
		s := sha.New()
		b := text(n + 200)
		s.Write(b[:n])
		s.Done()
		if string(b) != string(text(n+200)) {
			t.Errorf("the text of %d bytes, or the room behind it, was changed", n)
		}
		clear(b)
		if s.Done() != sha256.Sum256(text(n)) {
			t.Errorf("the sum of %d bytes turned when the caller's text did", n)
		}
	}
}

// P1.2: sums under way know nothing of each other, a copy and its model neither.
func TestStatesApart(t *testing.T) {
	for _, n := range edges {
		a, b := sha.New(), sha.New()
		a.Write(text(n))
		b.Write([]byte("b"))
		c := *a
		c.Write([]byte("c"))
		if a.Done() != sha256.Sum256(text(n)) || b.Done() != sha256.Sum256([]byte("b")) || c.Done() != sha256.Sum256(append(text(n), 'c')) {
			t.Errorf("%d bytes: one sum turned by another's text", n)
		}
	}
}
