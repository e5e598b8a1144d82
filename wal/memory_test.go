package wal_test

import (
	"bytes"
	"math/rand"
	"slices"
	"testing"

	"indenture/api"
	"indenture/wal"
)

// spoil writes over all bytes of b, its spare room too.
func spoil(b []byte) {
	for i := range b[:cap(b)] {
		b[:cap(b)][i] ^= 0xa5
	}
}

// P8.2: what is handed in stays as it was, its spare room too, and may be written over then; also where the Append is refused, or its disk dies.
func TestAppendLeavesArgument(t *testing.T) {
	for _, n := range append([]int{longest + 1}, lengths...) {
		for _, spare := range []int{0, 1, 44, 45, 63, 64, 200} {
			for _, room := range []int{0, 30} {
				for _, k := range []int{-1, 0, 1} {
					whole := slices.Clip(text(n+spare, 1))
					was := bytes.Clone(whole)
					l := opened(t, made(t, room))
					l.Disk().Fuse(k, 7)
					err := l.Append(whole[:n])
					if !bytes.Equal(whole, was) {
						t.Fatalf("%d bytes, %d of spare room: they turned", n, spare)
					}
					spoil(whole)
					m := model{}
					if err == api.OK {
						m = m.with(was[:n])
					}
					says(t, l, l.Disk(), m, n, spare, room, k)
				}
			}
		}
	}
}

// P8.2: a text that is written over turns neither the sum ahead of the next record nor the disk.
func TestWrittenOverThenAppend(t *testing.T) {
	l, m := opened(t, made(t, 60)), model{}
	b := make([]byte, 300)
	for i, n := range lengths[:len(lengths)-1] {
		copy(b, text(n, byte(i)))
		m = m.with(b[:n])
		appended(t, l, b[:n], api.OK)
		spoil(b)
		holds(t, l, m, i)
	}
}

// P8.3: records that were told may be written over, each by itself, and the list too; what a log tells is new each time.
func TestRecordsWrittenOver(t *testing.T) {
	var texts [][]byte
	for i, n := range lengths {
		texts = append(texts, text(n, byte(i)))
	}
	m := modelOf(texts...)
	d := laid(t, 60, m.bytes)
	l := opened(t, d)
	for i := range lengths {
		one, two := l.Records(), l.Records()
		spoil(one[i])
		one[i] = append(one[i], 1, 2, 3)
		for k, b := range one {
			if k != i && !bytes.Equal(b, texts[k]) {
				t.Errorf("record %d turned with record %d", k, i)
			}
		}
		if !slices.EqualFunc(two, texts, bytes.Equal) {
			t.Errorf("another list turned with record %d", i)
		}
		clear(one[:cap(one)])
		_ = append(two, text(5, 1))
		holds(t, l, m, i)
	}
	appended(t, l, text(3, 9), api.OK)
	holds(t, l, m.with(text(3, 9)))
}

// P8.3: records that were told stay as they are, whatever comes to the log or to its disk.
func TestRecordsStay(t *testing.T) {
	m := modelOf(text(30, 1), text(5, 2))
	d := laid(t, 9, m.bytes)
	l := opened(t, d)
	was := l.Records()
	appended(t, l, text(20, 3), api.OK)
	for i := range d.Len() {
		d.Write(i, make([]byte, size))
	}
	if !slices.EqualFunc(was, m.records, bytes.Equal) {
		t.Error("they turned")
	}
	says(t, l, d, m.with(text(20, 3)))
}

// P8.2: nil is a text of no byte.
func TestNilText(t *testing.T) {
	l, twin := opened(t, made(t, 3)), opened(t, made(t, 3))
	for range 2 {
		appended(t, l, nil, api.OK)
		appended(t, twin, []byte{}, api.OK)
	}
	holds(t, l, modelOf(nil, nil))
	holds(t, twin, modelOf(nil, nil))
	if !bytes.Equal(l.Disk().All(), twin.Disk().All()) {
		t.Error("unlike disks")
	}
}

// P8.2, P8.3: two logs to which the same was done tell the same, on disks that are the same byte for byte; so does one that is opened anew ahead of each Append.
func TestTwins(t *testing.T) {
	random := rand.New(rand.NewSource(8))
	for range 100 {
		n := random.Intn(60)
		a, b := opened(t, made(t, n)), opened(t, made(t, n))
		for range 40 {
			text := noise(random, random.Intn(200))
			k, torn := random.Intn(12)-6, random.Intn(size+1)
			var errs []api.Errno
			for _, l := range []*wal.Log{a, b} {
				l.Disk().Fuse(k, torn)
				errs = append(errs, l.Append(text))
			}
			if errs[0] != errs[1] {
				t.Fatalf("errors %d, %d", errs[0], errs[1])
			}
			x, y := a.Disk(), b.Disk()
			if !bytes.Equal(x.All(), y.All()) || x.Writes() != y.Writes() || x.Dead() != y.Dead() {
				t.Fatal("unlike disks")
			}
			if a.Free() != b.Free() || a.Last() != b.Last() || !slices.EqualFunc(a.Records(), b.Records(), bytes.Equal) {
				t.Fatal("unlike logs")
			}
			if errs[0] == api.ErrDead {
				x.Wake()
				y.Wake()
				a, b = opened(t, x), opened(t, y)
			} else {
				b = opened(t, y)
			}
		}
	}
}
