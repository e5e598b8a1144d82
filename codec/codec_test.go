package codec_test

import (
	"bytes"
	"math/rand"
	"slices"
	"testing"

	"indenture/api"
	"indenture/codec"
)

// P2.3
func TestCmpKnown(t *testing.T) {
	known := []struct {
		a, b string
		want int
	}{
		{"", "", 0}, {"", "\x00", -1}, {"a", "a", 0}, {"a", "b", -1}, {"a", "ab", -1}, {"ab", "b", -1},
		{"\x7f", "\x80", -1}, {"\x00", "\xff", -1}, {"a\x00", "a", 1}, {"a\xff", "b", -1}, {"ba", "ab", 1},
	}
	for _, k := range known {
		if got := codec.Cmp([]byte(k.a), []byte(k.b)); got != k.want {
			t.Errorf("%q, %q: %d", k.a, k.b, got)
		}
		if got := codec.Cmp([]byte(k.b), []byte(k.a)); got != -k.want {
			t.Errorf("%q, %q: %d", k.b, k.a, got)
		}
	}
	if codec.Cmp(nil, []byte{}) != 0 || codec.Cmp(nil, nil) != 0 || codec.Cmp([]byte{}, nil) != 0 || codec.Cmp(nil, []byte{0}) != -1 || codec.Cmp([]byte{0}, nil) != 1 {
		t.Error("nil is none")
	}
}

// P2.3: all texts of at most four of a few bytes, against the library's own.
func TestCmpAll(t *testing.T) {
	all := [][]byte{{}}
	for i := 0; len(all[i]) < 4; i++ {
		for _, x := range []byte{0, 1, 128, 255} {
			all = append(all, append(slices.Clone(all[i]), x))
		}
	}
	for _, a := range all {
		for _, b := range all {
			if got := codec.Cmp(a, b); got != bytes.Compare(a, b) {
				t.Fatalf("% d, % d: %d", a, b, got)
			}
		}
	}
}

// P2.3: texts that are handed in stay as they are, their spare room too.
func TestCmpLeavesArguments(t *testing.T) {
	a, b := text(100), text(100)
	if codec.Cmp(a[:50], b[:50]) != 0 || codec.Cmp(a[:50], b[:51]) != -1 {
		t.Error("of a beginning")
	}
	if string(a) != string(text(100)) || string(b) != string(text(100)) {
		t.Error("a text was changed")
	}
}

// P2.4: the lesser number's bytes stand ahead.
func TestNumbersInOrder(t *testing.T) {
	random := rand.New(rand.NewSource(1))
	all := slices.Clone(nums)
	for range 200 {
		all = append(all, int64(random.Uint64())>>random.Intn(64))
	}
	slices.Sort(all)
	all = slices.Compact(all)
	for i, a := range all {
		for j, b := range all {
			x, y := written(func(w *codec.Writer) { w.Num(a) }), written(func(w *codec.Writer) { w.Num(b) })
			if got, want := codec.Cmp(x, y), sign(i-j); got != want {
				t.Errorf("%d, %d: %d", a, b, got)
			}
		}
	}
}

func sign(n int) int {
	switch {
	case n < 0:
		return -1
	case n > 0:
		return 1
	}
	return 0
}

// step writes a part, and holds what is read against it.
type step struct {
	write func(w *codec.Writer)
	read  func(r *codec.Reader) bool
}

func randomStep(random *rand.Rand) step {
	switch random.Intn(7) {
	case 0:
		x := byte(random.Uint32())
		return step{func(w *codec.Writer) { w.Byte(x) }, func(r *codec.Reader) bool { return r.Byte() == x }}
	case 1:
		x := random.Intn(2) == 0
		return step{func(w *codec.Writer) { w.Truth(x) }, func(r *codec.Reader) bool { return r.Truth() == x }}
	case 2:
		n := random.Intn(api.MaxBytes+1) >> random.Intn(20)
		return step{func(w *codec.Writer) { w.Count(n) }, func(r *codec.Reader) bool { return r.Count(n) == n }}
	case 3:
		n := int64(random.Uint64()) >> random.Intn(64)
		return step{func(w *codec.Writer) { w.Num(n) }, func(r *codec.Reader) bool { return r.Num() == n }}
	case 4:
		b := make([]byte, random.Intn(40))
		random.Read(b)
		return step{func(w *codec.Writer) { w.Text(b) }, func(r *codec.Reader) bool { return bytes.Equal(r.Text(len(b)), b) }}
	case 5:
		var d api.Digest
		random.Read(d[:])
		return step{func(w *codec.Writer) { w.Digest(d) }, func(r *codec.Reader) bool { return r.Digest() == d }}
	}
	x := make(api.Row, random.Intn(9))
	for i := range x {
		x[i] = int64(random.Uint64()) >> random.Intn(64)
	}
	return step{func(w *codec.Writer) { w.Row(x) }, func(r *codec.Reader) bool { return slices.Equal(r.Row(len(x)), x) }}
}

// P2.4: what was written is read, part by part, to its end.
func TestWrittenIsRead(t *testing.T) {
	random := rand.New(rand.NewSource(2))
	for round := range 500 {
		var w codec.Writer
		var steps []step
		for range random.Intn(30) {
			s := randomStep(random)
			s.write(&w)
			steps = append(steps, s)
		}
		r := codec.New(w.Bytes())
		for i, s := range steps {
			if !s.read(r) {
				t.Fatalf("round %d: part %d is another one", round, i)
			}
		}
		if w.Err() != api.OK || r.End() != api.OK {
			t.Fatalf("round %d: %d, %d", round, w.Err(), r.End())
		}
	}
}

// copies are calls that read a part, and write what was read.
func copies() []func(r *codec.Reader, w *codec.Writer) {
	return []func(r *codec.Reader, w *codec.Writer){
		func(r *codec.Reader, w *codec.Writer) { w.Byte(r.Byte()) },
		func(r *codec.Reader, w *codec.Writer) { w.Truth(r.Truth()) },
		func(r *codec.Reader, w *codec.Writer) { w.Count(r.Count(api.MaxBytes)) },
		func(r *codec.Reader, w *codec.Writer) { w.Num(r.Num()) },
		func(r *codec.Reader, w *codec.Writer) { w.Text(r.Text(api.MaxBytes)) },
		func(r *codec.Reader, w *codec.Writer) { w.Digest(r.Digest()) },
		func(r *codec.Reader, w *codec.Writer) { w.Row(r.Row(255)) },
	}
}

// P2.4: whatever bytes are read as a part are those that the part is written by; so no part has two forms.
func TestNoTwoForms(t *testing.T) {
	random := rand.New(rand.NewSource(3))
	for range 20000 {
		b := make([]byte, random.Intn(60))
		random.Read(b)
		for i := range min(len(b), random.Intn(4)) {
			b[i] = byte(random.Intn(6)) // so that counts are small ones, and truths are some
		}
		for i, again := range copies() {
			var w codec.Writer
			r := codec.New(b)
			again(r, &w)
			if r.Err() == api.OK && string(w.Bytes()) != string(b[:len(b)-r.Left()]) {
				t.Fatalf("part %d of % d: written as % d", i, b, w.Bytes())
			}
		}
	}
}

// P2.4: each of all three bytes is a count that is written by them, or none.
func TestAllCounts(t *testing.T) {
	for n := range 1 << 24 {
		if n > api.MaxBytes+1000 && n&0xffff > 2 {
			continue
		}
		b := []byte{byte(n >> 16), byte(n >> 8), byte(n)}
		r := codec.New(b)
		got := r.Count(1 << 30)
		if n > api.MaxBytes {
			if got != 0 || r.End() != api.ErrLimit {
				t.Fatalf("%d: %d, %d", n, got, r.End())
			}
			continue
		}
		if got != n || r.End() != api.OK || string(written(func(w *codec.Writer) { w.Count(n) })) != string(b) {
			t.Fatalf("%d: %d, %d", n, got, r.End())
		}
	}
}
