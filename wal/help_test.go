package wal_test

import (
	"bytes"
	"crypto/sha256"
	"encoding/binary"
	"math/rand"
	"slices"
	"testing"

	"indenture/api"
	"indenture/disk"
	"indenture/wal"
)

const (
	size    = api.SectorSize
	longest = 100000
)

// lengths are those at which the count of a record's sectors turns, and some between.
var lengths = []int{0, 1, 2, 18, 19, 20, 21, 63, 64, 65, 82, 83, 84, 85, 146, 147, 148, 149, 500}

// made tells a disk of n sectors.
func made(t *testing.T, n int) *disk.Disk {
	t.Helper()
	d, err := disk.New(n)
	if err != api.OK {
		t.Fatalf("disk.New(%d): error %d", n, err)
	}
	return d
}

// laid tells a disk of n sectors, of which the first ones have those bytes.
func laid(t *testing.T, n int, parts ...[]byte) *disk.Disk {
	t.Helper()
	d := made(t, n)
	for i, s := range sectors(slices.Concat(parts...)) {
		if err := d.Write(i, s); err != api.OK {
			t.Fatalf("the sector %d of %d: error %d", i, n, err)
		}
	}
	return d
}

// sectors tells the sectors that those bytes are, zeros behind the last one's.
func sectors(b []byte) [][]byte {
	var l [][]byte
	for len(b) > 0 {
		n := min(len(b), size)
		l = append(l, append(bytes.Clone(b[:n]), make([]byte, size-n)...))
		b = b[n:]
	}
	return l
}

// text tells n bytes, none of them 0 and of each of its sectors the last one 1, so that no zero and no mark is taken for another one; of unlike kinds they are unlike.
func text(n int, kind byte) []byte {
	b := make([]byte, n)
	for i := range b {
		b[i] = 1 + byte(i*7+int(kind)*31)%255
		if i >= 19 && (i-19)%size == size-1 {
			b[i] = 1
		}
	}
	return b
}

// noise tells n bytes by chance.
func noise(random *rand.Rand, n int) []byte {
	b := make([]byte, n)
	random.Read(b)
	return b
}

// number tells the bytes of a record's number.
func number(n int) []byte {
	return binary.BigEndian.AppendUint64(nil, uint64(n)+1<<63)
}

// sum tells the sum of the record of that number and text behind the one whose sum is ahead, put together anew by the words of the chapter.
func sum(ahead api.Digest, n int, text []byte) api.Digest {
	b := []byte{87}
	for _, part := range [][]byte{ahead[:], number(n), text} {
		b = binary.BigEndian.AppendUint64(b, uint64(len(part)))
		b = append(b, part...)
	}
	return sha256.Sum256(b)
}

// first is what a first sector says.
type first struct {
	tag    byte
	length int
	number []byte
	text   []byte // of 19 bytes at most
	sum    api.Digest
	mark   byte
}

// bytes tells those of the sector.
func (f first) bytes() []byte {
	b := []byte{f.tag, byte(f.length >> 16), byte(f.length >> 8), byte(f.length)}
	b = append(b, f.number...)
	b = append(b, f.text...)
	b = append(b, make([]byte, 19-len(f.text))...)
	b = append(b, f.sum[:]...)
	return append(b, f.mark)
}

// of tells the first sector of the record of that number and text behind the one whose sum is ahead.
func of(ahead api.Digest, n int, text []byte) first {
	return first{87, len(text), number(n), text[:min(len(text), 19)], sum(ahead, n, text), 1}
}

// model is what a log must be: its records, their sums, and their bytes on the disk.
type model struct {
	records [][]byte
	last    api.Digest
	bytes   []byte
}

// with tells the model with a record more; the one that there was stays.
func (m model) with(b []byte) model {
	f := of(m.last, len(m.records), b)
	rest := slices.Concat(sectors(b[len(f.text):])...)
	return model{
		records: append(slices.Clone(m.records), bytes.Clone(b)),
		last:    f.sum,
		bytes:   slices.Concat(m.bytes, f.bytes(), rest),
	}
}

// modelOf tells the model of a log with these records.
func modelOf(texts ...[]byte) model {
	var m model
	for _, b := range texts {
		m = m.with(b)
	}
	return m
}

// one is a write: of a sector, these bytes.
type one struct {
	at    int
	bytes []byte
}

// writes tells which ones put b behind the records of m, on a disk of n sectors.
func (m model) writes(b []byte, n int) []one {
	var l []one
	more := m.with(b)
	if behind := len(more.bytes) / size; behind < n {
		l = append(l, one{behind, make([]byte, size)})
	}
	at, s := len(m.bytes)/size, sectors(more.bytes[len(m.bytes):])
	for i := 1; i < len(s); i++ {
		l = append(l, one{at + i, s[i]})
	}
	return append(l, one{at, s[0]})
}

// done tells the bytes of a disk behind these writes, of which the last one was torn, so that only so many of its bytes came.
func done(all []byte, l []one, torn int) []byte {
	all = bytes.Clone(all)
	for i, w := range l {
		n := size
		if i == len(l)-1 {
			n = torn
		}
		copy(all[w.at*size:], w.bytes[:n])
	}
	return all
}

// opened opens a disk, which must have a log.
func opened(t *testing.T, d *disk.Disk) *wal.Log {
	t.Helper()
	l, err := wal.Open(d)
	if err != api.OK || l == nil {
		t.Fatalf("Open: error %d", err)
	}
	return l
}

// refused opens a disk, which must have just that error; it must stay as it is.
func refused(t *testing.T, d *disk.Disk, want api.Errno, what ...any) {
	t.Helper()
	all, writes := d.All(), d.Writes()
	for range 2 {
		if l, err := wal.Open(d); err != want || l != nil {
			t.Errorf("Open: error %d, not %d: %v", err, want, what)
		}
	}
	if !bytes.Equal(d.All(), all) || d.Writes() != writes {
		t.Errorf("Open wrote: %v", what)
	}
}

// appended puts b behind the others, which must have just that error.
func appended(t *testing.T, l *wal.Log, b []byte, want api.Errno) {
	t.Helper()
	if err := l.Append(b); err != want {
		t.Fatalf("Append of %d bytes: error %d, not %d", len(b), err, want)
	}
}

// says holds against a log what all its calls that turn nothing must tell.
func says(t *testing.T, l *wal.Log, d *disk.Disk, m model, what ...any) {
	t.Helper()
	if got := l.Records(); !slices.EqualFunc(got, m.records, bytes.Equal) {
		t.Errorf("%d records, not %d, or other ones: %v", len(got), len(m.records), what)
	}
	if l.Free() != d.Len()-len(m.bytes)/size {
		t.Errorf("Free: %d of %d, not %d: %v", l.Free(), d.Len(), d.Len()-len(m.bytes)/size, what)
	}
	if l.Last() != m.last {
		t.Errorf("Last: %x, not %x: %v", l.Last(), m.last, what)
	}
	if l.Disk() != d {
		t.Errorf("Disk: another one: %v", what)
	}
}

// holds holds a log, and what Open says of its disk, against the model; that this is done again turns nothing.
func holds(t *testing.T, l *wal.Log, m model, what ...any) {
	t.Helper()
	d := l.Disk()
	all, writes := d.All(), d.Writes()
	says(t, l, d, m, what...)
	if !bytes.HasPrefix(all, m.bytes) {
		t.Errorf("other bytes on the disk: %v", what)
	}
	for range 2 {
		says(t, opened(t, d), d, m, what...)
	}
	if !bytes.Equal(d.All(), all) || d.Writes() != writes {
		t.Errorf("a disk was written that was only asked: %v", what)
	}
}
