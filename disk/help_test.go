package disk_test

import (
	"bytes"
	"math"
	"math/rand"
	"slices"
	"testing"

	"indenture/api"
	"indenture/disk"
)

const size = api.SectorSize

// beyond: numbers of sectors that there are on no disk.
var beyond = []int{-1, -2, -size, math.MinInt, api.MaxSectors, api.MaxSectors + 1, math.MaxInt}

// made tells a disk of n sectors.
func made(t *testing.T, n int) *disk.Disk {
	t.Helper()
	d, err := disk.New(n)
	if err != api.OK || d == nil {
		t.Fatalf("New(%d): error %d", n, err)
	}
	return d
}

// times tells n bytes that are all b.
func times(b byte, n int) []byte { return bytes.Repeat([]byte{b}, n) }

// marked tells a sector's bytes, no two of them alike: where a piece of them stands, there is one place only that it may come from.
func marked(from byte) []byte {
	b := make([]byte, size)
	for i := range b {
		b[i] = from + byte(i)
	}
	return b
}

// noise tells a sector's bytes by chance.
func noise(random *rand.Rand) []byte {
	b := make([]byte, size)
	random.Read(b)
	return b
}

// write writes b, which must have just that error.
func write(t *testing.T, d *disk.Disk, i int, b []byte, want api.Errno) {
	t.Helper()
	if err := d.Write(i, b); err != want {
		t.Errorf("Write(%d) of %d bytes: error %d, not %d", i, len(b), err, want)
	}
}

// read reads the sector i, which must have just those bytes.
func read(t *testing.T, d *disk.Disk, i int, want []byte) {
	t.Helper()
	if b, err := d.Read(i); err != api.OK || !bytes.Equal(b, want) {
		t.Errorf("Read(%d): %d, error %d, not %d", i, b, err, want)
	}
}

// unread reads the sector i, which must have just that error, and no bytes.
func unread(t *testing.T, d *disk.Disk, i int, want api.Errno) {
	t.Helper()
	if b, err := d.Read(i); err != want || len(b) != 0 {
		t.Errorf("Read(%d): %d, error %d, not %d", i, b, err, want)
	}
}

// holds holds against a disk what all its calls that turn nothing must tell: its sectors, whether it is dead, its writes.
func holds(t *testing.T, d *disk.Disk, sectors [][]byte, dead bool, writes int) {
	t.Helper()
	if d.Len() != len(sectors) || d.Dead() != dead || d.Writes() != writes {
		t.Errorf("%d sectors, dead: %t, %d writes; not %d, %t, %d", d.Len(), d.Dead(), d.Writes(), len(sectors), dead, writes)
	}
	if all := d.All(); !bytes.Equal(all, slices.Concat(sectors...)) {
		t.Errorf("all bytes: %d, not %d", all, sectors)
	}
	for i, s := range sectors {
		if dead {
			unread(t, d, i, api.ErrDead)
		} else {
			read(t, d, i, s)
		}
	}
}

// zeros tells n sectors as they are at first.
func zeros(n int) [][]byte {
	l := make([][]byte, n)
	for i := range l {
		l[i] = make([]byte, size)
	}
	return l
}
