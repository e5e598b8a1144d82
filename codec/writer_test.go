package codec_test

import (
	"encoding/binary"
	"math"
	"slices"
	"testing"

	"indenture/api"
	"indenture/codec"
)

// written is what one call writes.
func written(call func(w *codec.Writer)) []byte {
	var w codec.Writer
	call(&w)
	return w.Bytes()
}

// text makes n bytes, no two neighbours of which are alike.
func text(n int) []byte {
	b := make([]byte, n)
	for i := range b {
		b[i] = byte(i*31 + i/256 + 7)
	}
	return b
}

// row makes n numbers of all sizes and both signs.
func row(n int) api.Row {
	r := make(api.Row, n)
	for i := range r {
		r[i] = nums[i%len(nums)] + int64(i)
	}
	return r
}

func digest() api.Digest {
	return api.Digest(text(32))
}

// nums are the numbers at which their bytes turn, in order.
var nums = []int64{
	math.MinInt64, math.MinInt64 + 1, -1 << 56, -1 << 32, -1<<31 - 1, -65537, -65536, -257, -256, -255, -129, -128, -2, -1,
	0, 1, 2, 127, 128, 255, 256, 257, 65535, 65536, 1<<31 - 1, 1 << 31, 1<<32 - 1, 1 << 32, 1<<56 - 1, math.MaxInt64 - 1, math.MaxInt64,
}

// counts are those at which a count's bytes turn, in order.
var counts = []int{0, 1, 2, 127, 128, 255, 256, 257, 258, 65535, 65536, 65537, api.MaxBytes - 1, api.MaxBytes}

func check(t *testing.T, what string, got []byte, want ...byte) {
	t.Helper()
	if string(got) != string(want) {
		t.Errorf("%s: % d, not % d", what, got, want)
	}
}

// P2.1: the chapter's example, and parts whose bytes are written out.
func TestWritten(t *testing.T) {
	var w codec.Writer
	w.Count(258)
	w.Num(-1)
	w.Text([]byte("ab"))
	check(t, "example", w.Bytes(), 0, 1, 2, 127, 255, 255, 255, 255, 255, 255, 255, 0, 0, 2, 97, 98)

	check(t, "byte", written(func(w *codec.Writer) { w.Byte(200) }), 200)
	check(t, "true", written(func(w *codec.Writer) { w.Truth(true) }), 1)
	check(t, "false", written(func(w *codec.Writer) { w.Truth(false) }), 0)
	check(t, "no count", written(func(w *codec.Writer) { w.Count(0) }), 0, 0, 0)
	check(t, "greatest count", written(func(w *codec.Writer) { w.Count(1 << 20) }), 16, 0, 0)
	check(t, "zero", written(func(w *codec.Writer) { w.Num(0) }), 128, 0, 0, 0, 0, 0, 0, 0)
	check(t, "least", written(func(w *codec.Writer) { w.Num(math.MinInt64) }), 0, 0, 0, 0, 0, 0, 0, 0)
	check(t, "greatest", written(func(w *codec.Writer) { w.Num(math.MaxInt64) }), 255, 255, 255, 255, 255, 255, 255, 255)
	check(t, "places", written(func(w *codec.Writer) { w.Num(0x0102030405060708) }), 129, 2, 3, 4, 5, 6, 7, 8)
	check(t, "no text", written(func(w *codec.Writer) { w.Text(nil) }), 0, 0, 0)
	check(t, "empty text", written(func(w *codec.Writer) { w.Text([]byte{}) }), 0, 0, 0)
	check(t, "no row", written(func(w *codec.Writer) { w.Row(nil) }), 0)
	check(t, "empty row", written(func(w *codec.Writer) { w.Row(api.Row{}) }), 0)
	check(t, "row", written(func(w *codec.Writer) { w.Row(api.Row{1, -1}) }), 2, 128, 0, 0, 0, 0, 0, 0, 1, 127, 255, 255, 255, 255, 255, 255, 255)
}

// P2.1: each byte and each edge, by the library's own writing of numbers.
func TestWrittenEdges(t *testing.T) {
	for x := range 256 {
		check(t, "byte", written(func(w *codec.Writer) { w.Byte(byte(x)) }), byte(x))
	}
	for _, n := range counts {
		check(t, "count", written(func(w *codec.Writer) { w.Count(n) }), binary.BigEndian.AppendUint32(nil, uint32(n))[1:]...)
	}
	for _, n := range nums {
		check(t, "number", written(func(w *codec.Writer) { w.Num(n) }), numBytes(n)...)
	}
	for _, n := range counts {
		want := append(binary.BigEndian.AppendUint32(nil, uint32(n))[1:], text(n)...)
		if got := written(func(w *codec.Writer) { w.Text(text(n)) }); string(got) != string(want) {
			t.Errorf("text of %d bytes", n)
		}
	}
	d := digest()
	check(t, "digest", written(func(w *codec.Writer) { w.Digest(d) }), d[:]...)
	for n := range 256 {
		want := []byte{byte(n)}
		for _, x := range row(n) {
			want = append(want, numBytes(x)...)
		}
		check(t, "row", written(func(w *codec.Writer) { w.Row(row(n)) }), want...)
	}
}

func numBytes(n int64) []byte {
	return binary.BigEndian.AppendUint64(nil, uint64(n)+1<<63)
}

// calls are one of each kind that may be written.
func calls() map[string]func(w *codec.Writer) {
	return map[string]func(w *codec.Writer){
		"byte":   func(w *codec.Writer) { w.Byte(9) },
		"true":   func(w *codec.Writer) { w.Truth(true) },
		"false":  func(w *codec.Writer) { w.Truth(false) },
		"count":  func(w *codec.Writer) { w.Count(70000) },
		"number": func(w *codec.Writer) { w.Num(-5) },
		"text":   func(w *codec.Writer) { w.Text(text(300)) },
		"digest": func(w *codec.Writer) { w.Digest(digest()) },
		"row":    func(w *codec.Writer) { w.Row(row(3)) },
	}
}

// P2.1: a part's bytes stand behind the others, whatever these are.
func TestWrittenBehind(t *testing.T) {
	for first, a := range calls() {
		for second, b := range calls() {
			var w codec.Writer
			a(&w)
			b(&w)
			if want := slices.Concat(written(a), written(b)); string(w.Bytes()) != string(want) || w.Err() != api.OK {
				t.Errorf("%s, %s: % d, %d", first, second, w.Bytes(), w.Err())
			}
		}
	}
}

// P2.1
func TestNothingWritten(t *testing.T) {
	var w codec.Writer
	if len(w.Bytes()) != 0 || w.Err() != api.OK {
		t.Errorf("% d, %d", w.Bytes(), w.Err())
	}
}

// refusals are calls of what may not be written.
func refusals() map[string]func(w *codec.Writer) {
	return map[string]func(w *codec.Writer){
		"count -1":              func(w *codec.Writer) { w.Count(-1) },
		"count MinInt":          func(w *codec.Writer) { w.Count(math.MinInt) },
		"count MaxBytes and 1":  func(w *codec.Writer) { w.Count(api.MaxBytes + 1) },
		"count 2^24":            func(w *codec.Writer) { w.Count(1 << 24) },
		"count 2^24 and 1":      func(w *codec.Writer) { w.Count(1<<24 + 1) },
		"count MaxInt":          func(w *codec.Writer) { w.Count(math.MaxInt) },
		"text MaxBytes and 1":   func(w *codec.Writer) { w.Text(make([]byte, api.MaxBytes+1)) },
		"text 2^24":             func(w *codec.Writer) { w.Text(make([]byte, 1<<24)) },
		"row of 256":            func(w *codec.Writer) { w.Row(make(api.Row, 256)) },
		"row of 257":            func(w *codec.Writer) { w.Row(make(api.Row, 257)) },
		"row of MaxBytes and 1": func(w *codec.Writer) { w.Row(make(api.Row, api.MaxBytes+1)) },
	}
}

// P2.1: a refusal stays, and all that was or will be written is not told.
func TestRefused(t *testing.T) {
	for name, refused := range refusals() {
		for around, call := range calls() {
			var w codec.Writer
			call(&w)
			refused(&w)
			if w.Err() != api.ErrLimit || len(w.Bytes()) != 0 {
				t.Errorf("%s behind %s: %d, %d bytes", name, around, w.Err(), len(w.Bytes()))
			}
			call(&w)
			w.Count(0)
			if w.Err() != api.ErrLimit || len(w.Bytes()) != 0 {
				t.Errorf("%s ahead of %s: %d, %d bytes", name, around, w.Err(), len(w.Bytes()))
			}
		}
		for again, second := range refusals() {
			var w codec.Writer
			refused(&w)
			second(&w)
			if w.Err() != api.ErrLimit || len(w.Bytes()) != 0 {
				t.Errorf("%s, %s: %d, %d bytes", name, again, w.Err(), len(w.Bytes()))
			}
		}
	}
}

// P2.1: what may be written is bound part by part, not all together.
func TestWrittenMuch(t *testing.T) {
	var w codec.Writer
	for range 3 {
		w.Text(make([]byte, api.MaxBytes))
		w.Row(make(api.Row, 255))
	}
	if want := 3 * (3 + api.MaxBytes + 1 + 255*8); len(w.Bytes()) != want || w.Err() != api.OK {
		t.Errorf("%d bytes, %d", len(w.Bytes()), w.Err())
	}
}

// P2.1: what was told may be written over, its spare room too; the writer goes on as if nothing were.
func TestToldBytesAreNew(t *testing.T) {
	for n := range 100 {
		var w codec.Writer
		for i := range n {
			w.Byte(byte(i))
		}
		told, again := w.Bytes(), w.Bytes()
		spoil(told)
		w.Byte(200)
		spoil(told)
		want := make([]byte, n)
		for i := range want {
			want[i] = byte(i)
		}
		check(t, "told ahead", again, want...)
		check(t, "told behind", w.Bytes(), append(want, 200)...)
	}
}

// spoil writes over a list, and over its spare room.
func spoil(b []byte) {
	b = b[:cap(b)]
	for i := range b {
		b[i] = ^b[i]
	}
}

// P2.1: what was handed in isn't kept, and stays as it is, its spare room too.
func TestWriterLeavesArguments(t *testing.T) {
	var w codec.Writer
	b, r := text(100), row(10)
	w.Text(b[:40])
	w.Row(r[:4])
	w.Text(b[:7])
	if string(b) != string(text(100)) || !slices.Equal(r, row(10)) {
		t.Error("what was handed in was changed")
	}
	want := w.Bytes()
	spoil(b)
	clear(r)
	check(t, "kept", w.Bytes(), want...)
}

// P2.1: writers know nothing of each other, and the same calls write the same.
func TestWritersApart(t *testing.T) {
	var a, b codec.Writer
	a.Num(1)
	b.Count(-1)
	a.Byte(2)
	check(t, "one", a.Bytes(), append(numBytes(1), 2)...)
	var c codec.Writer
	c.Num(1)
	c.Byte(2)
	check(t, "another", c.Bytes(), a.Bytes()...)
	if a.Err() != api.OK || b.Err() != api.ErrLimit {
		t.Error(a.Err(), b.Err())
	}
}
