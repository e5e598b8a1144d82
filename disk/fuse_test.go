package disk_test

import (
	"math"
	"testing"

	"indenture/api"
)

// torn tells what a sector of those bytes is, when of others the first n come to it.
func torn(was, b []byte, n int) []byte {
	s := append([]byte(nil), was...)
	copy(s, b[:n])
	return s
}

// P7.4: the chapter's example.
func TestExample(t *testing.T) {
	d := made(t, 2)
	d.Fuse(1, 3)
	write(t, d, 0, times('a', size), api.OK)
	write(t, d, 1, times('b', size), api.ErrDead)
	d.Wake()
	read(t, d, 1, append([]byte("bbb"), times(0, size-3)...))
	read(t, d, 0, times('a', size))
}

// P7.2, P7.4: a disk dies at just the write that its fuse says, whatever sectors are written; the ones ahead of it are whole.
func TestFuseAt(t *testing.T) {
	for _, k := range []int{0, 1, 2, 3, 10, 100} {
		d, want := made(t, 4), zeros(4)
		d.Fuse(k, 7)
		for i := range k {
			want[i%4] = marked(byte(i))
			write(t, d, i%4, want[i%4], api.OK)
			holds(t, d, want, false, i+1)
		}
		write(t, d, 3, times(255, size), api.ErrDead)
		want[3] = torn(want[3], times(255, size), 7)
		holds(t, d, want, true, k+1)
	}
}

// P7.4: a fuse that is longer than any script, or that isn't there, lets the disk live.
func TestFuseFar(t *testing.T) {
	for _, k := range []int{1000, math.MaxInt32, math.MaxInt - 1, math.MaxInt, -1, -2, -1000, math.MinInt} {
		d := made(t, 1)
		d.Fuse(k, 0)
		for i := range 1000 {
			write(t, d, 0, marked(byte(i)), api.OK)
		}
		holds(t, d, [][]byte{marked(999 % 256)}, false, 1000)
	}
}

// P7.2, P7.4: the torn sector has so many first bytes of what was written, the others are as they were there.
func TestTorn(t *testing.T) {
	for n := range size + 1 {
		d := made(t, 3)
		for i := range 3 {
			write(t, d, i, marked(100), api.OK)
		}
		d.Fuse(0, n)
		write(t, d, 1, marked(20), api.ErrDead)
		want := [][]byte{marked(100), torn(marked(100), marked(20), n), marked(100)}
		holds(t, d, want, true, 4)
		d.Wake()
		holds(t, d, want, false, 4)
	}
}

// P7.4: torn counts as 0, if it is less, as a sector's bytes, if it is more; the disk dies all the same.
func TestTornBeyond(t *testing.T) {
	for _, k := range []struct{ torn, come int }{
		{-1, 0}, {-size, 0}, {math.MinInt, 0}, {0, 0}, {1, 1}, {size - 1, size - 1},
		{size, size}, {size + 1, size}, {2 * size, size}, {math.MaxInt, size},
	} {
		d := made(t, 2)
		write(t, d, 0, marked(1), api.OK)
		d.Fuse(0, k.torn)
		write(t, d, 0, marked(2), api.ErrDead)
		holds(t, d, [][]byte{torn(marked(1), marked(2), k.come), times(0, size)}, true, 2)
	}
}

// P7.4: a fuse takes the place of any other one, its count and its torn too, and begins from now on.
func TestFuseAnew(t *testing.T) {
	for _, first := range []int{0, 1, 2, 5, 50, -1} {
		for burnt := range 3 {
			for _, k := range []int{0, 1, 3, -1} {
				d := made(t, 1)
				d.Fuse(first, 40)
				now := times(0, size)
				for i := range burnt {
					if first < 0 || i < first {
						now = marked(byte(i))
						write(t, d, 0, now, api.OK)
					}
				}
				d.Fuse(k, 2)
				for i := range max(k, 0) {
					now = marked(byte(50 + i))
					write(t, d, 0, now, api.OK)
				}
				if k < 0 {
					for range 60 {
						write(t, d, 0, marked(200), api.OK)
					}
					continue
				}
				write(t, d, 0, marked(200), api.ErrDead)
				d.Wake()
				read(t, d, 0, torn(now, marked(200), 2))
			}
		}
	}
}

// P7.4: a fuse turns neither a sector nor the count of writes, and neither kills nor wakes.
func TestFuseTurnsNothing(t *testing.T) {
	d := made(t, 2)
	write(t, d, 1, marked(3), api.OK)
	want := [][]byte{times(0, size), marked(3)}
	for _, k := range []int{-1, 0, 1, 5} {
		d.Fuse(k, size)
		holds(t, d, want, false, 1)
	}
	d.Fuse(0, 0)
	write(t, d, 0, marked(4), api.ErrDead)
	for _, k := range []int{-1, 0, 1, 5} {
		d.Fuse(k, size)
		holds(t, d, want, true, 2)
	}
}

// P7.2, P7.4: refused writes aren't counted, and leave the fuse as long as it was.
func TestRefusedLeaveFuse(t *testing.T) {
	d, want := made(t, 2), zeros(2)
	refused := func(writes int) {
		t.Helper()
		for _, i := range append([]int{2}, beyond...) {
			write(t, d, i, marked(1), api.ErrNone)
		}
		for _, n := range []int{0, 1, size - 1, size + 1} {
			write(t, d, 0, times(1, n), api.ErrArg)
		}
		holds(t, d, want, false, writes)
	}
	d.Fuse(2, 9)
	for k := range 2 {
		refused(k)
		want[k] = marked(byte(30 + k))
		write(t, d, k, want[k], api.OK)
	}
	refused(2)
	write(t, d, 0, marked(90), api.ErrDead)
	want[0] = torn(want[0], marked(90), 9)
	holds(t, d, want, true, 3)
	for _, i := range []int{0, 1, 2, -1} {
		write(t, d, i, marked(1), api.ErrDead)
		write(t, d, i, nil, api.ErrDead)
	}
	holds(t, d, want, true, 3)
}

// P7.4: a disk that woke is alive, has its sectors as they are, and no fuse.
func TestWake(t *testing.T) {
	for _, k := range []int{0, 1, 4} {
		d := made(t, 2)
		d.Fuse(k, 11)
		for range k {
			write(t, d, 0, marked(5), api.OK)
		}
		write(t, d, 1, marked(6), api.ErrDead)
		d.Wake()
		first := times(0, size)
		if k > 0 {
			first = marked(5)
		}
		holds(t, d, [][]byte{first, torn(times(0, size), marked(6), 11)}, false, k+1)
		for range 30 {
			write(t, d, 1, marked(7), api.OK)
		}
		holds(t, d, [][]byte{first, marked(7)}, false, k+31)
	}
}

// P7.4: waking takes the fuse of a living disk too, and one that was laid while it was dead.
func TestWakeUnlit(t *testing.T) {
	d := made(t, 1)
	d.Fuse(1, 0)
	d.Wake()
	for range 5 {
		write(t, d, 0, marked(1), api.OK)
	}
	d.Fuse(0, 0)
	write(t, d, 0, marked(2), api.ErrDead)
	d.Fuse(0, 0)
	d.Wake()
	for range 5 {
		write(t, d, 0, marked(3), api.OK)
	}
	holds(t, d, [][]byte{marked(3)}, false, 11)
}

// P7.4: a disk may die again and again, by a fuse each; what was told stays as it is.
func TestDieAgain(t *testing.T) {
	d, want := made(t, 1), zeros(1)
	for i := range 20 {
		d.Fuse(i%3, i)
		for range i % 3 {
			want[0] = marked(byte(i))
			write(t, d, 0, want[0], api.OK)
		}
		write(t, d, 0, times(byte(100+i), size), api.ErrDead)
		want[0] = torn(want[0], times(byte(100+i), size), i)
		if !d.Dead() {
			t.Error("alive", i)
		}
		d.Wake()
		read(t, d, 0, want[0])
	}
	if d.Writes() != 20+19 {
		t.Error(d.Writes(), "writes")
	}
}
