package wal

import (
	"slices"

	"indenture/api"
	"indenture/codec"
)

const (
	longest = 100000 // bytes of a record
	tag     = 87     // ahead of a record's sum, and of its first sector
	mark    = 1      // a first sector's last byte

	textAt = 12 // where a first sector's text begins: behind the tag, the length, the number
	begun  = 19 // how many of its bytes stand there at most
)

// record is a text with its place in a log.
type record struct {
	number int
	text   []byte
	sum    api.Digest
}

// Need tells how many sectors a record of n bytes has.
func Need(n int) int {
	if n < 0 || n > longest {
		return 0
	}
	others := n - inFirst(n)
	return 1 + (others+api.SectorSize-1)/api.SectorSize
}

// inFirst tells how many of a text's n bytes stand in its record's first sector.
func inFirst(n int) int { return min(n, begun) }

// first tells the first sector of a record.
func (r record) first() []byte {
	var w codec.Writer
	w.Byte(tag)
	w.Count(len(r.text))
	w.Num(int64(r.number))
	for _, x := range filled(r.text, begun) {
		w.Byte(x)
	}
	w.Digest(r.sum)
	w.Byte(mark)
	return w.Bytes()
}

// marked tells whether a record should begin at the first one of these sectors.
func marked(rest []byte) bool {
	return len(rest) > 0 && rest[api.SectorSize-1] == mark
}

// text tells the text of the record that should begin at the first one of these sectors. Of a length that no record has, or that isn't there whole, it is one without a byte: the first sector made of that says another length, so that no record begins there.
func text(rest []byte) []byte {
	head := codec.New(rest[:textAt])
	head.Byte()
	n := head.Count(longest)
	if Need(n)*api.SectorSize > len(rest) {
		return nil
	}
	return slices.Concat(rest[textAt:][:inFirst(n)], rest[api.SectorSize:][:n-inFirst(n)])
}

// filled tells size bytes: those of b, as far as they go, and zeros behind them.
func filled(b []byte, size int) []byte {
	all := make([]byte, size)
	copy(all, b)
	return all
}
