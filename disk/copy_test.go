package disk_test

import (
	"bytes"
	"math/rand"
	"slices"
	"testing"

	"indenture/api"
	"indenture/disk"
)

// written tells a disk of n sectors that no two of them are alike, and these.
func written(t *testing.T, n int) (*disk.Disk, [][]byte) {
	t.Helper()
	d, l := made(t, n), zeros(n)
	for i := range n {
		l[i] = marked(byte(3 * i))
		write(t, d, i, l[i], api.OK)
	}
	return d, l
}

// P7.5: All tells all bytes, the sectors in order, dead or alive.
func TestAll(t *testing.T) {
	for _, n := range []int{0, 1, 2, 3, 20} {
		d, want := written(t, n)
		holds(t, d, want, false, n)
		if n == 0 {
			continue
		}
		d.Fuse(0, 30)
		write(t, d, n-1, times(200, size), api.ErrDead)
		want[n-1] = torn(want[n-1], times(200, size), 30)
		holds(t, d, want, true, n+1)
	}
	if b := made(t, api.MaxSectors).All(); len(b) != api.MaxSectors*size {
		t.Error(len(b), "bytes")
	}
}

// P7.5: a copy has the same sectors, is alive, without a fuse, and has no writes so far, whatever the disk is.
func TestCopy(t *testing.T) {
	for _, n := range []int{0, 1, 2, 20} {
		d, want := written(t, n)
		holds(t, d.Copy(), want, false, 0)
		d.Fuse(0, 5)
		c := d.Copy()
		holds(t, c, want, false, 0)
		if n == 0 {
			continue
		}
		write(t, d, 0, times(250, size), api.ErrDead)
		holds(t, c, want, false, 0)
		was := want[0]
		want[0] = torn(was, times(250, size), 5)
		holds(t, d.Copy(), want, false, 0)
		holds(t, d, want, true, n+1)
		for k := range 10 {
			write(t, c, 0, was, api.OK)
			if c.Writes() != k+1 {
				t.Error(c.Writes(), "writes")
			}
		}
	}
}

// P7.5: a copy of a dead disk lives on; the fuse that it died by isn't there any more, nor one that was laid behind it.
func TestCopyOfDead(t *testing.T) {
	d, _ := written(t, 2)
	d.Fuse(0, 0)
	write(t, d, 1, marked(99), api.ErrDead)
	d.Fuse(1, 1)
	c := d.Copy()
	for range 5 {
		write(t, c, 1, marked(98), api.OK)
	}
	holds(t, c, [][]byte{marked(0), marked(98)}, false, 5)
	holds(t, d, [][]byte{marked(0), marked(3)}, true, 3)
}

// P7.5: a disk and its copies go their own ways: writes, fuses, deaths, wakings.
func TestCopyApart(t *testing.T) {
	d, want := written(t, 2)
	c := d.Copy()
	e := c.Copy()
	write(t, d, 0, marked(70), api.OK)
	write(t, c, 1, marked(80), api.OK)
	holds(t, d, [][]byte{marked(70), want[1]}, false, 3)
	holds(t, c, [][]byte{want[0], marked(80)}, false, 1)
	holds(t, e, want, false, 0)
	c.Fuse(0, 1)
	write(t, d, 1, marked(71), api.OK)
	write(t, e, 1, marked(91), api.OK)
	write(t, c, 0, times(9, size), api.ErrDead)
	holds(t, d, [][]byte{marked(70), marked(71)}, false, 4)
	holds(t, e, [][]byte{want[0], marked(91)}, false, 1)
	holds(t, c, [][]byte{torn(want[0], times(9, size), 1), marked(80)}, true, 2)
	d.Wake()
	e.Wake()
	if !c.Dead() {
		t.Error("another one's waking woke it")
	}
	d.Fuse(0, 0)
	c.Wake()
	write(t, c, 0, marked(81), api.OK)
	write(t, d, 0, marked(82), api.ErrDead)
}

// The rule of memory: what is handed in stays as it was, its spare room too, and isn't kept.
func TestHandedIn(t *testing.T) {
	d := made(t, 2)
	room := append(marked(1), times(77, 2*size)...)
	was := slices.Clone(room)
	for _, b := range [][]byte{room[:size], slices.Clip(room[:size:size]), room[:size-1], room[:size+1], room[:0]} {
		d.Fuse(-1, 0)
		d.Write(1, b)
		d.Fuse(0, 9)
		d.Write(1, b)
		d.Wake()
		if !bytes.Equal(room, was) {
			t.Fatalf("%d, not %d", room, was)
		}
	}
	write(t, d, 0, room[:size], api.OK)
	write(t, d, 1, room[:size], api.OK)
	clear(room)
	holds(t, d, [][]byte{marked(1), marked(1)}, false, d.Writes())
}

// The rule of memory: bytes that were told may be written over, their spare room too.
func TestTold(t *testing.T) {
	d, want := written(t, 3)
	over := func(b []byte) {
		b = b[:cap(b)]
		for i := range b {
			b[i] = 222
		}
	}
	for i := range 3 {
		b, _ := d.Read(i)
		over(b)
		over(d.All())
		holds(t, d, want, false, 3)
	}
	first, _ := d.Read(0)
	second, _ := d.Read(0)
	all := d.All()
	c := d.Copy()
	over(first)
	write(t, d, 0, marked(111), api.OK)
	if !bytes.Equal(second, want[0]) || !bytes.Equal(all, slices.Concat(want...)) {
		t.Errorf("%d, %d", second, all)
	}
	over(c.All())
	b, _ := c.Read(1)
	over(b)
	holds(t, c, want, false, 0)
}

// model is a disk by its words: its bytes in one list, how many writes came, at which one it dies (-1: at none).
type model struct {
	b          []byte
	dead       bool
	writes, at int
	torn       int
}

// write does as P7.2 says.
func (m *model) write(i int, b []byte) api.Errno {
	switch {
	case m.dead:
		return api.ErrDead
	case i < 0 || i >= len(m.b)/size:
		return api.ErrNone
	case len(b) != size:
		return api.ErrArg
	}
	m.writes++
	if m.writes-1 == m.at {
		m.dead = true
		copy(m.b[i*size:], b[:m.torn])
		return api.ErrDead
	}
	copy(m.b[i*size:], b)
	return api.OK
}

// lay does as P7.4 says.
func (m *model) lay(k, torn int) {
	m.at, m.torn = -1, min(max(torn, 0), size)
	if k >= 0 {
		m.at = m.writes + k
	}
}

// sectors tells the sectors.
func (m *model) sectors() [][]byte { return slices.Collect(slices.Chunk(m.b, size)) }

// step does one thing by chance to a disk and to its model.
func step(t *testing.T, random *rand.Rand, d *disk.Disk, m *model) {
	t.Helper()
	n := len(m.b) / size
	switch random.Intn(12) {
	case 0:
		k, torn := random.Intn(6)-1, random.Intn(80)-8
		d.Fuse(k, torn)
		m.lay(k, torn)
	case 1, 2:
		d.Wake()
		m.dead = false
		m.lay(-1, 0)
	case 3:
		i, b := random.Intn(n+4)-2, make([]byte, random.Intn(2*size))
		random.Read(b)
		write(t, d, i, b, m.write(i, b))
	default:
		i, b := random.Intn(n+1), noise(random)
		write(t, d, i, b, m.write(i, b))
	}
}

// P7.6, P7.1 to P7.5: scripts by chance do to a disk what they do to a list of bytes; a second disk to which the same is done tells the same.
func TestScripts(t *testing.T) {
	for seed := range int64(60) {
		random, again := rand.New(rand.NewSource(seed)), rand.New(rand.NewSource(seed))
		n := int(seed) % 6
		d, m := made(t, n), &model{b: make([]byte, n*size), at: -1}
		twin, other := made(t, n), &model{b: make([]byte, n*size), at: -1}
		for range 200 {
			step(t, random, d, m)
			step(t, again, twin, other)
			holds(t, d, m.sectors(), m.dead, m.writes)
			holds(t, twin, m.sectors(), m.dead, m.writes)
		}
	}
}

// P7.6: a write turns no other sector, whole or torn; what was written is read until it is written over, whatever dies.
func TestOthersStay(t *testing.T) {
	random := rand.New(rand.NewSource(5))
	d, want := written(t, 6)
	for range 600 {
		i, b := random.Intn(6), noise(random)
		switch random.Intn(3) {
		case 0:
			write(t, d, i, b, api.OK)
			want[i] = b
		case 1:
			n := random.Intn(size + 1)
			d.Fuse(0, n)
			write(t, d, i, b, api.ErrDead)
			want[i] = torn(want[i], b, n)
			if !bytes.Equal(d.All(), slices.Concat(want...)) {
				t.Fatal("dead, and other bytes")
			}
			d.Wake()
		case 2:
			d = d.Copy()
		}
		for k := range want {
			read(t, d, k, want[k])
		}
	}
}
