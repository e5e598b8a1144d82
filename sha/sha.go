// Package sha has the sum SHA-256 (FIPS 180-4), and sums of several texts that can't be taken for one another.
package sha

import (
	"bytes"

	"indenture/api"
)

// State is a sum under way; the zero one has nothing written.
type State struct {
	words  [8]uint32       // behind the blocks that are full; of no meaning while nothing is written
	block  [blockSize]byte // its first length % blockSize bytes wait for the rest of their block
	length uint64
}

// New begins a sum.
func New() *State {
	return &State{}
}

// Write lets the text go on by b.
func (s *State) Write(b []byte) {
	if s.length == 0 {
		s.words = firstWords()
	}
	held := int(s.length % blockSize)
	s.length += uint64(len(b))
	if held > 0 {
		n := copy(s.block[held:], b)
		if held+n < blockSize {
			return
		}
		s.words = turnAll(s.words, s.block[:])
		b = b[n:]
	}
	full := len(b) - len(b)%blockSize
	s.words = turnAll(s.words, b[:full])
	copy(s.block[:], b[full:])
}

// Done tells the sum of all that was written so far. A copy is filled up, so that s may go on.
func (s *State) Done() api.Digest {
	filled := *s
	filled.Write(filling(s.length))
	return bytesOf(filled.words)
}

// Len tells how many bytes were written.
func (s *State) Len() uint64 {
	return s.length
}

// Sum tells the sum of a text.
func Sum(b []byte) api.Digest {
	var s State
	s.Write(b)
	return s.Done()
}

// Preimage puts a tag and texts together. Each text's length stands ahead of it, so that no other tag and texts make the same bytes.
func Preimage(tag byte, texts [][]byte) []byte {
	size := 1
	for _, t := range texts {
		size += lengthSize + len(t)
	}
	out := make([]byte, 0, size)
	out = append(out, tag)
	for _, t := range texts {
		length := bigEnd(uint64(len(t)))
		out = append(out, length[:]...)
		out = append(out, t...)
	}
	return out
}

// Hash tells the sum of a preimage. It is written piece by piece, so that the preimage needn't be held at once.
func Hash(tag byte, texts [][]byte) api.Digest {
	var s State
	s.Write([]byte{tag})
	for _, t := range texts {
		length := bigEnd(uint64(len(t)))
		s.Write(length[:])
		s.Write(t)
	}
	return s.Done()
}

// Clash tells whether a and b are unlike texts with one sum.
func Clash(a, b []byte) bool {
	return !bytes.Equal(a, b) && Sum(a) == Sum(b)
}
