package wal_test

import (
	"bytes"
	"math/rand"
	"testing"

	"indenture/api"
	"indenture/disk"
	"indenture/wal"
)

// broken holds a log whose write met an error: it says what it said ahead of it, and each Append is ErrDead and writes nothing, whatever its text, and whether its disk is alive again or not.
func broken(t *testing.T, l *wal.Log, m model, what ...any) {
	t.Helper()
	d := l.Disk()
	all, writes := d.All(), d.Writes()
	says(t, l, d, m, what...)
	for _, n := range []int{0, 20, 3000} {
		appended(t, l, make([]byte, n), api.ErrDead)
	}
	says(t, l, d, m, what...)
	if !bytes.Equal(d.All(), all) || d.Writes() != writes {
		t.Errorf("a broken log wrote: %v", what)
	}
}

// dies lets a disk die at the write number k of an Append of b behind the records of m, of which torn bytes come; and holds what is there then, and when the disk woke. What is told is the woken disk and its model.
func dies(t *testing.T, d *disk.Disk, m model, b []byte, k, torn int) (*disk.Disk, model) {
	t.Helper()
	what := []any{"bytes", len(b), "of", d.Len(), "sectors; write", k, "torn", torn}
	l, was := opened(t, d), d.All()
	writes := m.writes(b, d.Len())
	before := d.Writes()
	d.Fuse(k, torn)
	appended(t, l, b, api.ErrDead)
	if d.Writes()-before != k+1 || !d.Dead() {
		t.Errorf("%d writes: %v", d.Writes()-before, what)
	}
	if !bytes.Equal(d.All(), done(was, writes[:k+1], torn)) {
		t.Errorf("other bytes on the disk: %v", what)
	}
	broken(t, l, m, what...)
	refused(t, d, api.ErrDead, what...)
	d.Wake()
	broken(t, l, m, what...)
	if k == len(writes)-1 && torn == size {
		m = m.with(b)
	}
	holds(t, opened(t, d), m, what...)
	return d, m
}

// olds are records that stand on a disk ahead of those that a test appends.
func olds() []model {
	return []model{{}, modelOf(text(7, 1)), modelOf(text(90, 1), nil, text(19, 2))}
}

// P8.2, P8.4: the order of an Append's writes, seen by disks that die at each one of them, with each sort of torn write: behind it are new sectors, old bytes, or the disk's end.
func TestDiesAtEach(t *testing.T) {
	random := rand.New(rand.NewSource(3))
	for _, m := range olds() {
		for _, n := range []int{0, 1, 19, 20, 83, 84, 150, 300} {
			for _, more := range []int{0, 1, 3} {
				b, room := text(n, 5), len(m.bytes)/size+wal.Need(n)+more
				old := noise(random, room*size-len(m.bytes))
				old[size-1] = 0
				for k := range m.writes(b, room) {
					for torn := range size + 1 {
						dies(t, laid(t, room, m.bytes), m, b, k, torn)
						dies(t, laid(t, room, m.bytes, old), m, b, k, torn)
					}
				}
			}
		}
	}
}

// P8.2, P8.4: the longest record, whose disk dies at its first writes, at its last ones, and somewhere between; with a sector behind it and without one.
func TestLongestDies(t *testing.T) {
	m, b := modelOf(text(3, 1)), text(longest, 2)
	for _, room := range []int{1565, 1566, 1600} {
		last := len(m.writes(b, room)) - 1
		for _, k := range []int{0, 1, 2, 700, last - 1, last} {
			for _, torn := range []int{0, 1, 63, 64} {
				dies(t, laid(t, room, m.bytes), m, b, k, torn)
			}
		}
	}
}

// P8.4: a death behind a death: the first one's bytes lie about where the second one writes; then an Append that lives.
func TestDiesTwice(t *testing.T) {
	tears := []int{0, 1, 4, 31, 63, 64}
	for _, n := range []int{0, 19, 84, 200} {
		for _, then := range []int{0, 20, 84, 147} {
			for k := range (model{}).writes(text(n, 1), 12) {
				for _, torn := range tears {
					for k2 := range (model{}).writes(text(then, 2), 12) {
						for _, torn2 := range tears {
							d, m := dies(t, made(t, 12), model{}, text(n, 1), k, torn)
							d, m = dies(t, d, m, text(then, 2), k2, torn2)
							l := opened(t, d)
							appended(t, l, text(50, 3), api.OK)
							m = m.with(text(50, 3))
							holds(t, l, m, n, then, k, torn, k2, torn2)
						}
					}
				}
			}
		}
	}
}

// P8.4: whole sectors of a record whose Append died stay behind a shorter one; none of them is taken for a record, though each looks like the one that would come next.
func TestOldOnesBehind(t *testing.T) {
	next := modelOf(text(5, 1), text(6, 2))
	long := append(text(19, 9), bytes.Repeat(next.bytes[size:], 3)...)
	for k := range len(model{}.writes(long, 8)) - 1 {
		d, m := dies(t, made(t, 8), model{}, long, k, size)
		l := opened(t, d)
		appended(t, l, text(5, 1), api.OK)
		holds(t, l, m.with(text(5, 1)), k)
	}
}

// P8.2: a disk that is dead when an Append comes: what is refused leaves the log whole, for no write met an error; else it is broken for good.
func TestDeadAhead(t *testing.T) {
	d := made(t, 6)
	l := opened(t, d)
	appended(t, l, text(30, 1), api.OK)
	m := modelOf(text(30, 1))
	d.Fuse(0, 0)
	if err := d.Write(5, make([]byte, size)); err != api.ErrDead {
		t.Fatal(err)
	}
	appended(t, l, make([]byte, longest+1), api.ErrArg)
	appended(t, l, text(300, 1), api.ErrCapacity)
	says(t, l, d, m)
	d.Wake()
	appended(t, l, text(3, 2), api.OK)
	m = m.with(text(3, 2))
	holds(t, l, m)
	d.Fuse(0, 0)
	if err := d.Write(5, make([]byte, size)); err != api.ErrDead {
		t.Fatal(err)
	}
	writes := d.Writes()
	appended(t, l, text(3, 2), api.ErrDead)
	for range 2 {
		broken(t, l, m)
		appended(t, l, make([]byte, longest), api.ErrDead)
		appended(t, l, make([]byte, longest+1), api.ErrDead) // each Append, this one too
		d.Wake()
	}
	broken(t, l, m)
	holds(t, l, m)
	if d.Writes() != writes {
		t.Error("a dead disk was written")
	}
}

// P8.3: a log whose disk died says all that it said, dead or alive; a new one that woke goes on.
func TestNewOneGoesOn(t *testing.T) {
	d, m := dies(t, made(t, 20), modelOf(), text(200, 1), 2, 10)
	for i := range 5 {
		l := opened(t, d)
		appended(t, l, text(i*10, byte(i)), api.OK)
		m = m.with(text(i*10, byte(i)))
		holds(t, l, m, i)
	}
}

// P8.4: whole scripts of appends, deaths and wakings: what Open tells is what was told OK, and at most the one that was under way, as a whole.
func TestScripts(t *testing.T) {
	random := rand.New(rand.NewSource(4))
	ones, deaths := 0, 0
	for round := range 400 {
		d := made(t, random.Intn(80))
		l, m := opened(t, d), model{}
		for step := range 60 {
			if random.Intn(3) == 0 {
				d.Fuse(random.Intn(8), random.Intn(size+4)-2)
			}
			n := random.Intn(8 << random.Intn(6))
			if random.Intn(3) == 0 {
				n = lengths[random.Intn(len(lengths))]
			}
			b := noise(random, n)
			more, err := m.with(b), l.Append(b)
			switch {
			case len(more.bytes)/size > d.Len():
				if err != api.ErrCapacity {
					t.Fatalf("round %d, step %d: error %d without room", round, step, err)
				}
			case err == api.OK:
				m = more
			case err == api.ErrDead && d.Dead():
				says(t, l, d, m, round, step)
				d.Wake()
				l, deaths = opened(t, d), deaths+1
				if len(l.Records()) > len(m.records) {
					m, ones = more, ones+1
				}
			default:
				t.Fatalf("round %d, step %d: error %d", round, step, err)
			}
			holds(t, l, m, round, step)
		}
	}
	if ones == 0 || deaths <= 2*ones {
		t.Error("weak scripts:", deaths, "deaths, of which", ones, "behind the mark")
	}
}
