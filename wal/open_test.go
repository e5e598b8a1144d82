package wal_test

import (
	"bytes"
	"math/rand"
	"slices"
	"testing"

	"indenture/api"
	"indenture/wal"
)

// P8.1: no disk.
func TestOpenNil(t *testing.T) {
	for range 2 {
		if l, err := wal.Open(nil); l != nil || err != api.ErrArg {
			t.Errorf("error %d", err)
		}
	}
}

// P8.1: a dead disk is ErrDead, also one with no log on it; one that woke has its log.
func TestOpenDead(t *testing.T) {
	m := modelOf(text(3, 1), text(100, 2))
	none := bytes.Repeat([]byte{1}, size)
	for _, b := range [][]byte{m.bytes, none} {
		d := laid(t, 9, b)
		d.Fuse(0, 10)
		d.Write(8, text(size, 1))
		refused(t, d, api.ErrDead)
		d.Wake()
		if len(b) == len(none) {
			refused(t, d, api.ErrLog)
			continue
		}
		holds(t, opened(t, d), m)
	}
}

// P8.1: the records of a disk, of all sorts of lengths, up to the disk's end, or to a sector that doesn't end with 1, whatever else it has; of one that does, but is no record, there is no log.
func TestOpenKnown(t *testing.T) {
	random := rand.New(rand.NewSource(5))
	for range 300 {
		var m model
		for range random.Intn(6) {
			m = m.with(noise(random, lengths[random.Intn(len(lengths))]))
		}
		have := len(m.bytes) / size
		holds(t, opened(t, laid(t, have, m.bytes)), m)
		old := noise(random, (1+random.Intn(5))*size)
		for _, end := range []byte{0, 2, 3, 128, 129, 255} {
			old[size-1] = end
			d := laid(t, have+len(old)/size, m.bytes, old)
			holds(t, opened(t, d), m, end)
			if !bytes.Equal(d.All()[len(m.bytes):], old) {
				t.Fatal("Open turned what is behind the log")
			}
		}
		old[size-1] = 1
		refused(t, laid(t, have+len(old)/size, m.bytes, old), api.ErrLog)
	}
}

// P8.1: behind the sector that ends the log stand old records, whole ones: they are none of it.
func TestOpenOldOnesBehind(t *testing.T) {
	m := modelOf(text(3, 1), text(30, 2))
	more := m.with(text(4, 3)).with(text(90, 4))
	rest := more.bytes[len(m.bytes):]
	for _, end := range []byte{0, 2, 255} {
		gap := append(text(size-1, 7), end)
		holds(t, opened(t, laid(t, 12, m.bytes, gap, rest)), m, end)
		holds(t, opened(t, laid(t, 12, m.bytes, gap, more.bytes)), m, end)
		// the record's own mark is another one: the record is none, and so is what stands behind it
		rest[size-1] = end
		holds(t, opened(t, laid(t, 12, m.bytes, rest)), m, end)
	}
}

// P8.1: each bit of each record's first sector is another one: no record begins there; but where it is the mark's, the log ends ahead of it.
func TestOpenBits(t *testing.T) {
	texts := [][]byte{nil, text(1, 1), text(18, 2), text(19, 3), text(20, 4), text(200, 5), nil, bytes.Repeat([]byte{0}, 10)}
	m := modelOf(texts...)
	for i := range texts {
		before := modelOf(texts[:i]...)
		for at := range size * 8 {
			b := bytes.Clone(m.bytes)
			b[len(before.bytes)+at/8] ^= 1 << (at % 8)
			d := laid(t, len(b)/size+3, b)
			if at/8 == size-1 {
				holds(t, opened(t, d), before, i, at)
			} else {
				refused(t, d, api.ErrLog, "record", i, "bit", at)
			}
		}
	}
}

// P8.1: each bit of the text in the other sectors is another one: the sum isn't the record's.
func TestOpenTextBits(t *testing.T) {
	m := modelOf(text(3, 1), text(19+size+10, 2), text(5, 3))
	for at := range (size + 10) * 8 {
		b := bytes.Clone(m.bytes)
		b[2*size+at/8] ^= 1 << (at % 8)
		refused(t, laid(t, 5, b), api.ErrLog, "bit", at)
	}
}

// P8.1: the bytes behind a record's text in its last sector aren't looked at, whatever they are, nor what they end with.
func TestOpenBehindText(t *testing.T) {
	random := rand.New(rand.NewSource(6))
	for _, n := range []int{20, 21, 50, 82, 84, 100, 500} {
		texts := [][]byte{text(3, 1), text(n, 2), text(n, 3), text(7, 4)}
		m := modelOf(texts...)
		for _, end := range []byte{0, 1, 2, 87} {
			b := bytes.Clone(m.bytes)
			for i := range texts[1:3] {
				last := b[:len(modelOf(texts[:i+2]...).bytes)]
				behind := last[len(last)-(size-(n-19)%size):]
				random.Read(behind)
				behind[len(behind)-1] = end
			}
			d := laid(t, len(b)/size+3, b)
			l := opened(t, d)
			says(t, l, d, m, n, end)
			appended(t, l, text(30, 5), api.OK)
			says(t, l, d, m.with(text(30, 5)), n, end)
			says(t, opened(t, d), d, m.with(text(30, 5)), n, end)
		}
	}
}

// turned is a way in which a first sector says something else.
type turned struct {
	what string
	turn func(f *first)
}

// P8.1: each part of a first sector is another one, though the other parts are made for it.
func TestOpenOtherParts(t *testing.T) {
	m := modelOf(text(4, 1), text(40, 2))
	ahead := modelOf(text(4, 1)).last
	for _, n := range []int{0, 10, 19, 20, 90} {
		b := text(n, 3)
		for _, k := range []turned{
			{"the first byte", func(f *first) { f.tag = 88 }},
			{"no first byte", func(f *first) { f.tag = 0 }},
			{"the mark as first byte", func(f *first) { f.tag = 1 }},
			{"a lesser number", func(f *first) { f.number, f.sum = number(1), sum(m.last, 1, b) }},
			{"a greater number", func(f *first) { f.number, f.sum = number(3), sum(m.last, 3, b) }},
			{"a number without its sign turned", func(f *first) { f.number[0] = 0 }},
			{"another number's sum", func(f *first) { f.sum = sum(m.last, 1, b) }},
			{"the sum behind another record", func(f *first) { f.sum = sum(ahead, 2, b) }},
			{"the sum behind none", func(f *first) { f.sum = sum(api.Digest{}, 2, b) }},
			{"no sum", func(f *first) { f.sum = api.Digest{} }},
			{"the sum of a longer text", func(f *first) { f.sum = sum(m.last, 2, append(slices.Clone(b), 0)) }},
			{"a longer length", func(f *first) { f.length, f.sum = n+1, sum(m.last, 2, b) }},
			{"a length of more than there are", func(f *first) { f.length = longest }},
			{"the greatest length", func(f *first) { f.length = 1<<24 - 1 }},
		} {
			f := of(m.last, 2, b)
			d := laid(t, 8, m.bytes, f.bytes(), b[len(f.text):])
			holds(t, opened(t, d), m.with(b), n)
			k.turn(&f)
			refused(t, laid(t, 8, m.bytes, f.bytes(), b[len(f.text):]), api.ErrLog, k.what, n)
			f.mark = 0
			holds(t, opened(t, laid(t, 8, m.bytes, f.bytes(), b[len(f.text):])), m, k.what, n)
		}
	}
}

// P8.1: zeros lack behind a text in its first sector, anywhere.
func TestOpenZerosLack(t *testing.T) {
	for n := range 19 {
		for at := n; at < 19; at++ {
			for _, x := range []byte{1, 128, 255} {
				m := modelOf(text(n, 1))
				b := bytes.Clone(m.bytes)
				b[12+at] = x
				refused(t, laid(t, 2, b), api.ErrLog, n, at, x)
			}
		}
	}
}

// P8.1: a record that would be too long, all of whose parts are made for it.
func TestOpenTooLong(t *testing.T) {
	for _, n := range []int{longest, longest + 1, longest + 2, longest + size, 1 << 17} {
		b := text(n, 1)
		m := modelOf(b)
		d := laid(t, len(m.bytes)/size+1, m.bytes)
		if n == longest {
			holds(t, opened(t, d), m)
		} else {
			refused(t, d, api.ErrLog, n)
		}
	}
}

// P8.1: the disk ends within a record, at each of its sectors, also where the sum is made for what is there, or for zeros behind that.
func TestOpenCut(t *testing.T) {
	m := modelOf(text(2, 1), text(70, 2))
	have := len(m.bytes) / size
	for _, n := range []int{20, 83, 84, 147, 148, 1000} {
		b := text(n, 3)
		whole := m.with(b)
		for room := have + 1; room < len(whole.bytes)/size; room++ {
			refused(t, laid(t, room, whole.bytes[:room*size]), api.ErrLog, n, room)
			there := b[:19+(room-have-1)*size]
			f := of(m.last, 2, b)
			for _, as := range [][]byte{there, append(bytes.Clone(there), make([]byte, n-len(there))...)} {
				f.sum = sum(m.last, 2, as)
				refused(t, laid(t, room, m.bytes, f.bytes(), there[19:]), api.ErrLog, n, room)
			}
		}
		holds(t, opened(t, laid(t, len(whole.bytes)/size, whole.bytes)), whole, n)
	}
}

// P8.1: what is no log at all, and logs whose records stand elsewhere, in another order, or twice.
func TestOpenNone(t *testing.T) {
	a, b := modelOf(text(3, 1)), modelOf(text(3, 1), text(30, 2))
	second := b.bytes[len(a.bytes):]
	for i, parts := range [][][]byte{
		{bytes.Repeat([]byte{1}, size)}, {append(make([]byte, size-1), 1)}, {bytes.Repeat([]byte{87}, size-1), {1}},
		{second}, {second, a.bytes}, {a.bytes, a.bytes}, {b.bytes, second}, {a.bytes, second, a.bytes},
		{a.bytes, modelOf(text(3, 9), text(30, 2)).bytes[len(a.bytes):]}, // behind another first one
	} {
		refused(t, laid(t, 9, parts...), api.ErrLog, i)
	}
	gap := make([]byte, size)
	holds(t, opened(t, laid(t, 9, gap, b.bytes)), model{})
	holds(t, opened(t, laid(t, 9, a.bytes, gap, second)), a)
}

// P8.1: noise that ends with a mark is no log, and never lets Open panic, whatever length it says.
func TestOpenNoise(t *testing.T) {
	random := rand.New(rand.NewSource(7))
	for range 20000 {
		b := noise(random, (1+random.Intn(4))*size)
		b[size-1] = 1
		if random.Intn(2) == 0 {
			b[0], b[1], b[2] = 87, 0, byte(random.Intn(3))
		}
		refused(t, laid(t, len(b)/size, b), api.ErrLog)
	}
}

// P8.1: Open leaves a fuse as long as it was, for it writes nothing.
func TestOpenLeavesFuse(t *testing.T) {
	m := modelOf(text(100, 1))
	d := laid(t, 9, m.bytes)
	d.Fuse(1, 3)
	for range 5 {
		says(t, opened(t, d), d, m)
	}
	for i, want := range []api.Errno{api.OK, api.ErrDead} {
		if err := d.Write(8, make([]byte, size)); err != want {
			t.Errorf("the write %d: error %d", i, err)
		}
	}
}

// P8.1, P8.3: logs of unlike disks have nothing to do with one another; Disk tells the very one.
func TestOpenTwoDisks(t *testing.T) {
	one, two := made(t, 9), made(t, 9)
	a, b := opened(t, one), opened(t, two)
	appended(t, a, text(30, 1), api.OK)
	holds(t, a, modelOf(text(30, 1)))
	holds(t, b, model{})
	appended(t, b, text(3, 2), api.OK)
	says(t, a, one, modelOf(text(30, 1)))
	says(t, b, two, modelOf(text(3, 2)))
}
