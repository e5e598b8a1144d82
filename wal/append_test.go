package wal_test

import (
	"bytes"
	"math/rand"
	"testing"

	"indenture/api"
	"indenture/disk"
	"indenture/wal"
)

// P8.1, P8.3: a new disk has a log without a record, also one of no sector, and the zero one.
func TestNone(t *testing.T) {
	for _, n := range []int{0, 1, 2, 100, api.MaxSectors} {
		holds(t, opened(t, made(t, n)), model{}, n)
	}
	holds(t, opened(t, new(disk.Disk)), model{})
}

// P8.2, P8.3: a record of each length, on disks of just enough sectors, of one too few, of some more: its sectors' bytes are those of the words, and no others are written.
func TestOneRecord(t *testing.T) {
	for _, n := range append([]int{longest - 1, longest}, lengths...) {
		b, need := text(n, 1), wal.Need(n)
		m := modelOf(b)
		if len(m.bytes) != need*size {
			t.Fatalf("Need(%d): %d", n, need)
		}
		for _, room := range []int{need, need + 1, need + 2, need + 9} {
			l := opened(t, made(t, room))
			appended(t, l, b, api.OK)
			holds(t, l, m, n, room)
			if rest := l.Disk().All()[len(m.bytes):]; !bytes.Equal(rest, make([]byte, len(rest))) {
				t.Errorf("%d bytes: others behind them", n)
			}
		}
		d := made(t, need-1)
		l := opened(t, d)
		appended(t, l, b, api.ErrCapacity)
		holds(t, l, model{}, n)
		if d.Writes() != 0 {
			t.Errorf("%d bytes: %d writes of a refused one", n, d.Writes())
		}
	}
}

// P8.2: the bytes of a short record's one sector, and of a longer one's two, each said by hand.
func TestBytes(t *testing.T) {
	l := opened(t, made(t, 4))
	appended(t, l, []byte("abc"), api.OK)
	last := l.Last()
	want := append([]byte{87, 0, 0, 3, 128, 0, 0, 0, 0, 0, 0, 0, 'a', 'b', 'c', 0, 0, 0, 0, 0, 0, 0, 0, 0, 0, 0, 0, 0, 0, 0, 0}, last[:]...)
	want = append(want, 1)
	appended(t, l, []byte("0123456789abcdefghijk"), api.OK)
	last = l.Last()
	want = append(want, 87, 0, 0, 21, 128, 0, 0, 0, 0, 0, 0, 1)
	want = append(append(append(want, "0123456789abcdefghi"...), last[:]...), 1)
	want = append(append(want, "jk"...), make([]byte, 62+size)...)
	if all := l.Disk().All(); !bytes.Equal(all, want) {
		t.Errorf("% d, not % d", all, want)
	}
}

// P8.2: texts of zeros, of marks, of other bytes, whatever they look like; a length's three bytes, too.
func TestAnyBytes(t *testing.T) {
	for _, n := range append([]int{255, 256, 257, 65535, 65536, 65537}, lengths...) {
		for _, x := range []byte{0, 1, 87, 255} {
			l := opened(t, made(t, 2*wal.Need(n)+1))
			b := bytes.Repeat([]byte{x}, n)
			appended(t, l, b, api.OK)
			appended(t, l, b, api.OK)
			holds(t, l, modelOf(b, b), n, x)
		}
	}
}

// P8.2, P8.3: records behind one another, each behind each; their sums stand on the sum ahead, so that the same text has another sum there.
func TestBehindOneAnother(t *testing.T) {
	for _, n := range lengths {
		for _, k := range lengths {
			l, m := opened(t, made(t, 50)), model{}
			for i, b := range [][]byte{text(n, 1), text(k, 2), text(n, 1), text(n, 1)} {
				was := m.last
				m = m.with(b)
				appended(t, l, b, api.OK)
				holds(t, l, m, n, k, i)
				if l.Last() == was {
					t.Error("a sum stays as it was")
				}
			}
		}
	}
}

// P8.2: numbers of more than a byte: all sectors of the greatest disk are records.
func TestManyRecords(t *testing.T) {
	l, m := opened(t, made(t, api.MaxSectors)), model{}
	for i := range api.MaxSectors {
		b := text(i%20, byte(i))
		appended(t, l, b, api.OK)
		f := of(m.last, i, b)
		m.records, m.last, m.bytes = append(m.records, b), f.sum, append(m.bytes, f.bytes()...)
	}
	holds(t, l, m)
	appended(t, l, nil, api.ErrCapacity)
	holds(t, l, m)
}

// P8.2: a text that is too long is refused, whatever room there is; it comes ahead of a lack of room.
func TestTooLong(t *testing.T) {
	for _, room := range []int{0, 1, 1563, 1564, 1565, api.MaxSectors} {
		for _, n := range []int{longest + 1, longest + size, api.MaxBytes} {
			l := opened(t, made(t, room))
			appended(t, l, make([]byte, n), api.ErrArg)
			holds(t, l, model{}, room, n)
			if l.Disk().Writes() != 0 {
				t.Error("a refused text was written")
			}
		}
	}
}

// P8.2: the longest records fill a disk, till there is no room; shorter ones find room yet.
func TestFull(t *testing.T) {
	l, m := opened(t, made(t, 2*1564+4)), model{}
	for kind := range byte(2) {
		b := text(longest, kind)
		appended(t, l, b, api.OK)
		m = m.with(b)
	}
	holds(t, l, m)
	for _, n := range []int{longest, 1000, 212} { // of 212 bytes it would be one sector too much
		appended(t, l, text(n, 9), api.ErrCapacity)
		holds(t, l, m, n)
	}
	for _, n := range []int{83, 0, 19} {
		appended(t, l, text(n, 5), api.OK)
		m = m.with(text(n, 5))
		holds(t, l, m, n)
	}
	for _, n := range []int{0, 1, 20, longest} {
		appended(t, l, text(n, 6), api.ErrCapacity)
		appended(t, l, make([]byte, longest+1), api.ErrArg)
		holds(t, l, m, n)
	}
}

// P8.2: refused ones turn nothing: what comes next is as if they had not been.
func TestRefusedTurnNothing(t *testing.T) {
	l, twin := opened(t, made(t, 9)), opened(t, made(t, 9))
	m := model{}
	for _, n := range []int{30, 0, 84, 19, 90} {
		appended(t, l, make([]byte, longest+1), api.ErrArg)
		appended(t, l, text(1000, 3), api.ErrCapacity)
		b := text(n, byte(n))
		want := api.OK
		if n == 90 {
			want = api.ErrCapacity
		} else {
			m = m.with(b)
		}
		appended(t, l, b, want)
		appended(t, twin, b, want)
		holds(t, l, m, n)
		holds(t, twin, m, n)
	}
	if a, b := l.Disk(), twin.Disk(); !bytes.Equal(a.All(), b.All()) || a.Writes() != b.Writes() {
		t.Error("unlike disks")
	}
}

// P8.2: the sector behind a record is zeros then, whatever it was; those behind it stay.
func TestZerosBehind(t *testing.T) {
	random := rand.New(rand.NewSource(1))
	for _, n := range lengths {
		for _, more := range []int{0, 1, 2, 5} {
			m := modelOf(text(5, 1), text(40, 2))
			room := len(m.bytes)/size + wal.Need(n) + more
			old := noise(random, room*size-len(m.bytes))
			old[size-1] = 0
			d := laid(t, room, m.bytes, old)
			l := opened(t, d)
			appended(t, l, text(n, 3), api.OK)
			m = m.with(text(n, 3))
			holds(t, l, m, n, more)
			rest := d.All()[len(m.bytes):]
			if more > 0 && !bytes.Equal(rest[:size], make([]byte, size)) {
				t.Errorf("%d bytes: no zeros behind them", n)
			}
			if more > 0 && !bytes.Equal(rest[size:], old[len(old)-len(rest)+size:]) {
				t.Errorf("%d bytes: the sectors behind turned", n)
			}
		}
	}
}

// P8.5: an Append needs a write for each sector of the record, and one for the zeros, if there is a sector for them; it tells OK.
func TestWrites(t *testing.T) {
	random := rand.New(rand.NewSource(2))
	for range 300 {
		d := made(t, random.Intn(40))
		l := opened(t, d)
		for range 20 {
			n := random.Intn(20 << random.Intn(6))
			free, was := l.Free(), d.Writes()
			err := l.Append(text(n, 1))
			want := wal.Need(n)
			switch {
			case want > free:
				want = 0
			case want < free:
				want++
			}
			if d.Writes()-was != want || (err == api.OK) != (want > 0) || want == 0 && err != api.ErrCapacity {
				t.Fatalf("%d bytes with %d sectors left: error %d, %d writes, not %d", n, free, err, d.Writes()-was, want)
			}
		}
	}
}
