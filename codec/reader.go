package codec

import (
	"bytes"

	"indenture/api"
)

// Reader reads parts. Behind its first error it reads nothing, and tells zero parts.
type Reader struct {
	rest []byte // what isn't read yet, in memory of its own
	err  api.Errno
}

// New reads b from its beginning.
func New(b []byte) *Reader {
	return &Reader{rest: bytes.Clone(b)}
}

// Byte reads a byte.
func (r *Reader) Byte() byte {
	return byte(r.value(byteSize))
}

// Truth reads a truth.
func (r *Reader) Truth() bool {
	x := r.Byte()
	if x > 1 {
		r.refuse(api.ErrForm)
	}
	return x == 1
}

// Count reads a count of at most most.
func (r *Reader) Count(most int) int {
	return r.atMost(min(most, api.MaxBytes), int(r.value(countSize)))
}

// Num reads a number.
func (r *Reader) Num() int64 {
	n := r.value(numSize)
	if r.err != api.OK {
		return 0
	}
	return int64(n ^ signBit)
}

// Text reads a text of at most most bytes.
func (r *Reader) Text(most int) []byte {
	n := r.Count(most)
	return bytes.Clone(r.take(n))
}

// Digest reads a digest.
func (r *Reader) Digest() api.Digest {
	var d api.Digest
	copy(d[:], r.take(len(d)))
	return d
}

// Row reads a row of at most most numbers.
func (r *Reader) Row(most int) api.Row {
	row := make(api.Row, r.atMost(most, int(r.Byte())))
	for i := range row {
		row[i] = r.Num()
	}
	if r.err != api.OK {
		return nil
	}
	return row
}

// Left tells how many bytes aren't read yet.
func (r *Reader) Left() int {
	return len(r.rest)
}

// Err tells the first error, or OK.
func (r *Reader) Err() api.Errno {
	return r.err
}

// End tells the first error; bytes that are left are one.
func (r *Reader) End() api.Errno {
	if len(r.rest) > 0 {
		r.refuse(api.ErrMore)
	}
	return r.err
}

// take reads n bytes, or none of them, if they aren't all there. They are the reader's own memory.
func (r *Reader) take(n int) []byte {
	if n > len(r.rest) {
		r.refuse(api.ErrEnd)
	}
	if r.err != api.OK {
		return nil
	}
	part := r.rest[:n]
	r.rest = r.rest[n:]
	return part
}

// value reads so many bytes, the highest first; 0, if there is an error.
func (r *Reader) value(size int) uint64 {
	var n uint64
	for _, b := range r.take(size) {
		n = n<<8 | uint64(b)
	}
	return n
}

// atMost tells n, or 0, if it is above most.
func (r *Reader) atMost(most, n int) int {
	if n > most {
		r.refuse(api.ErrLimit)
		return 0
	}
	return n
}

// refuse meets an error; the first one stays.
func (r *Reader) refuse(e api.Errno) {
	if r.err == api.OK {
		r.err = e
	}
}
