package codec

import (
	"bytes"

	"indenture/api"
)

// Writer writes parts; the zero one has written nothing. It is handed on by its pointer, as a copy would share the memory that it writes to.
type Writer struct {
	out []byte
	err api.Errno
}

// Byte writes a byte.
func (w *Writer) Byte(x byte) {
	w.put([]byte{x})
}

// Truth writes a truth.
func (w *Writer) Truth(x bool) {
	if x {
		w.Byte(1)
	} else {
		w.Byte(0)
	}
}

// Count writes a count; from 0 to api.MaxBytes.
func (w *Writer) Count(n int) {
	if n < 0 || n > api.MaxBytes {
		w.refuse()
		return
	}
	w.value(uint64(n), countSize)
}

// Num writes a number.
func (w *Writer) Num(n int64) {
	w.value(uint64(n)^signBit, numSize)
}

// Text writes a text of at most api.MaxBytes bytes. (Of a longer one Count is refused, and nothing is put behind that.)
func (w *Writer) Text(b []byte) {
	w.Count(len(b))
	w.put(b)
}

// Digest writes a digest.
func (w *Writer) Digest(d api.Digest) {
	w.put(d[:])
}

// Row writes a row of at most 255 numbers.
func (w *Writer) Row(r api.Row) {
	if len(r) > rowMost {
		w.refuse()
		return
	}
	w.Byte(byte(len(r)))
	for _, n := range r {
		w.Num(n)
	}
}

// Bytes tells all that was written; nothing, if Err isn't OK.
func (w *Writer) Bytes() []byte {
	return bytes.Clone(w.out)
}

// Err tells whether all that was to be written may be.
func (w *Writer) Err() api.Errno {
	return w.err
}

func (w *Writer) put(part []byte) {
	if w.err == api.OK {
		w.out = append(w.out, part...)
	}
}

// value writes the lowest bytes of n, so many, the highest first.
func (w *Writer) value(n uint64, size int) {
	for i := range size {
		w.Byte(byte(n >> (8 * (size - 1 - i))))
	}
}

// refuse gives up what was written, as nobody may be told it any more.
func (w *Writer) refuse() {
	w.out = nil
	w.err = api.ErrLimit
}
