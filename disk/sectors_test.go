package disk_test

import (
	"math"
	"math/rand"
	"testing"

	"indenture/api"
	"indenture/disk"
)

// P7.1: a new disk has its sectors, all zeros, and is alive.
func TestNew(t *testing.T) {
	for _, n := range []int{0, 1, 2, 7, 64, api.MaxSectors - 1, api.MaxSectors} {
		holds(t, made(t, n), zeros(n), false, 0)
	}
}

// P7.1: a new disk has no fuse.
func TestNewUnlit(t *testing.T) {
	d := made(t, 1)
	for i := range 300 {
		write(t, d, 0, marked(byte(i)), api.OK)
	}
	holds(t, d, [][]byte{marked(43)}, false, 300)
}

// P7.1: there is no disk of other counts of sectors.
func TestNewRefused(t *testing.T) {
	for _, n := range []int{-1, -2, -api.MaxSectors, math.MinInt, api.MaxSectors + 1, api.MaxSectors + 2, 1 << 20, math.MaxInt} {
		if d, err := disk.New(n); d != nil || err != api.ErrArg {
			t.Errorf("New(%d): %v, error %d", n, d, err)
		}
	}
}

// P7.1: a disk's length is as it was made, whatever is done.
func TestLenStays(t *testing.T) {
	for _, n := range []int{0, 1, 5} {
		d := made(t, n)
		d.Fuse(0, 9)
		for _, i := range []int{-1, 0, n - 1, n} {
			d.Write(i, marked(1))
			d.Read(i)
			if d.Len() != n {
				t.Errorf("%d sectors of %d", d.Len(), n)
			}
		}
		d.Wake()
		if d.Len() != n || d.Copy().Len() != n {
			t.Errorf("%d and %d sectors of %d", d.Len(), d.Copy().Len(), n)
		}
	}
}

// P7.2, P7.3: what was written to any sector is there; the others are as they were.
func TestWriteRead(t *testing.T) {
	for _, n := range []int{1, 2, 3, 9} {
		for i := range n {
			d, want := made(t, n), zeros(n)
			want[i] = marked(byte(n))
			write(t, d, i, want[i], api.OK)
			holds(t, d, want, false, 1)
		}
	}
}

// P7.2, P7.3: the first and the last sector of the greatest disk.
func TestWriteGreatest(t *testing.T) {
	d, want := made(t, api.MaxSectors), zeros(api.MaxSectors)
	for k, i := range []int{0, api.MaxSectors - 1} {
		want[i] = marked(byte(100 * k))
		write(t, d, i, want[i], api.OK)
		holds(t, d, want, false, k+1)
	}
}

// P7.2: a sector is what was written last, all its bytes.
func TestWriteOver(t *testing.T) {
	d := made(t, 2)
	for k, b := range [][]byte{marked(1), times(255, size), marked(2), times(0, size), marked(200)} {
		write(t, d, 1, b, api.OK)
		holds(t, d, [][]byte{times(0, size), b}, false, k+1)
	}
}

// P7.2, P7.3: there is no sector of that number.
func TestNoSector(t *testing.T) {
	for _, n := range []int{0, 1, 2, 5} {
		for _, i := range append([]int{n, n + 1, n + size}, beyond...) {
			d := made(t, n)
			write(t, d, i, marked(1), api.ErrNone)
			unread(t, d, i, api.ErrNone)
			holds(t, d, zeros(n), false, 0)
		}
	}
	d := made(t, api.MaxSectors)
	for _, i := range beyond {
		write(t, d, i, marked(1), api.ErrNone)
		unread(t, d, i, api.ErrNone)
	}
	holds(t, d, zeros(api.MaxSectors), false, 0)
}

// P7.2: bytes that aren't just a sector's are refused, and turn nothing.
func TestWrongLength(t *testing.T) {
	for _, n := range []int{0, 1, 2, size - 1, size + 1, size + 2, 2 * size, 3 * size, 1000} {
		d := made(t, 3)
		write(t, d, 1, marked(7), api.OK)
		for i := range 3 {
			write(t, d, i, times(9, n), api.ErrArg)
		}
		holds(t, d, [][]byte{times(0, size), marked(7), times(0, size)}, false, 1)
	}
	write(t, made(t, 1), 0, nil, api.ErrArg)
}

// P7.2, P7.3: of several errors the first one that the chapter names is told: dead, no such sector, the wrong length.
func TestErrorsOrder(t *testing.T) {
	for _, b := range [][]byte{nil, marked(1), times(1, size-1), times(1, size+1)} {
		for _, i := range append([]int{0, 1, 2, 3}, beyond...) {
			d := made(t, 2)
			want := api.OK
			switch {
			case i < 0 || i > 1:
				want = api.ErrNone
			case len(b) != size:
				want = api.ErrArg
			}
			write(t, d, i, b, want)
			d.Fuse(0, 0)
			write(t, d, 1, marked(1), api.ErrDead)
			write(t, d, i, b, api.ErrDead)
			unread(t, d, i, api.ErrDead)
		}
	}
}

// P7.2, P7.3: a dead disk takes nothing, and tells nothing.
func TestDeadRefuses(t *testing.T) {
	random := rand.New(rand.NewSource(1))
	d, want := made(t, 3), zeros(3)
	d.Fuse(1, 5)
	write(t, d, 2, marked(1), api.OK)
	write(t, d, 0, times(8, size), api.ErrDead)
	want[2] = marked(1)
	copy(want[0], times(8, 5))
	for range 20 {
		for i := range 3 {
			write(t, d, i, noise(random), api.ErrDead)
		}
		holds(t, d, want, true, 2)
	}
	d.Wake()
	holds(t, d, want, false, 2)
}

// P7.3: reading turns nothing, however often.
func TestReadTurnsNothing(t *testing.T) {
	d := made(t, 2)
	d.Fuse(1, 3)
	for range 5 {
		read(t, d, 1, times(0, size))
		unread(t, d, 2, api.ErrNone)
	}
	write(t, d, 1, marked(1), api.OK)
	for range 5 {
		read(t, d, 1, marked(1))
	}
	holds(t, d, [][]byte{times(0, size), marked(1)}, false, 1)
	write(t, d, 1, marked(2), api.ErrDead)
}
