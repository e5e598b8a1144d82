package codec_test

import (
	"math"
	"slices"
	"testing"

	"indenture/api"
	"indenture/codec"
)

// parts are calls that read one of each kind; each answers whether it told the zero part.
func parts() map[string]func(r *codec.Reader) bool {
	return map[string]func(r *codec.Reader) bool{
		"byte":   func(r *codec.Reader) bool { return r.Byte() == 0 },
		"truth":  func(r *codec.Reader) bool { return !r.Truth() },
		"count":  func(r *codec.Reader) bool { return r.Count(api.MaxBytes) == 0 },
		"number": func(r *codec.Reader) bool { return r.Num() == 0 },
		"text":   func(r *codec.Reader) bool { return len(r.Text(api.MaxBytes)) == 0 },
		"digest": func(r *codec.Reader) bool { return r.Digest() == api.Digest{} },
		"row":    func(r *codec.Reader) bool { return len(r.Row(255)) == 0 },
	}
}

// expect holds against a reader what it has to say, and that nothing is read behind an error.
func expect(t *testing.T, what string, r *codec.Reader, err api.Errno, left int) {
	t.Helper()
	if r.Err() != err || r.Left() != left {
		t.Errorf("%s: error %d, %d left, not %d, %d", what, r.Err(), r.Left(), err, left)
	}
	if err == api.OK {
		return
	}
	for name, part := range parts() {
		if !part(r) || r.Err() != err || r.Left() != left {
			t.Errorf("%s: %s behind it: error %d, %d left, not %d, %d", what, name, r.Err(), r.Left(), err, left)
		}
	}
	if e := r.End(); e != err || r.Err() != err || r.Left() != left {
		t.Errorf("%s: End behind it: %d, not %d", what, e, err)
	}
}

// P2.2: the chapter's example.
func TestReadKnown(t *testing.T) {
	r := codec.New([]byte{0, 1, 2})
	if n := r.Count(300); n != 258 {
		t.Error(n)
	}
	expect(t, "258", r, api.OK, 0)
	r = codec.New([]byte{0, 1, 2})
	if n := r.Count(257); n != 0 {
		t.Error(n)
	}
	expect(t, "258 of 257", r, api.ErrLimit, 0)
}

// P2.2: of bytes that hold no part whole just what is whole ahead of the lack is gone.
func TestEndWithin(t *testing.T) {
	for name, write := range calls() {
		whole := written(write)
		kind := name
		if name == "true" || name == "false" {
			kind = "truth"
		}
		for n := range len(whole) {
			gone := 0
			switch {
			case kind == "text" && n >= 3:
				gone = 3
			case kind == "row" && n >= 1:
				gone = 1 + (n-1)/8*8
			}
			r := codec.New(whole[:n])
			if !parts()[kind](r) {
				t.Errorf("%s cut at %d: not the zero part", name, n)
			}
			expect(t, name, r, api.ErrEnd, n-gone)
		}
	}
}

// P2.2: the same where the part isn't the first one.
func TestEndWithinLater(t *testing.T) {
	r := codec.New([]byte{5, 0, 1})
	if x := r.Byte(); x != 5 {
		t.Error(x)
	}
	if n := r.Count(9); n != 0 {
		t.Error(n)
	}
	expect(t, "count", r, api.ErrEnd, 2)
}

// P2.2: no bytes at all, and the zero reader, which has none.
func TestReadNothing(t *testing.T) {
	for name, part := range parts() {
		var zero codec.Reader
		for _, r := range []*codec.Reader{codec.New(nil), codec.New([]byte{}), &zero} {
			expect(t, name, r, api.OK, 0)
			if e := r.End(); e != api.OK {
				t.Errorf("%s: End: %d", name, e)
			}
			if !part(r) {
				t.Errorf("%s: not the zero part", name)
			}
			expect(t, name, r, api.ErrEnd, 0)
		}
	}
}

// P2.2: each byte, as a byte and as a truth.
func TestReadBytes(t *testing.T) {
	for x := range 256 {
		r := codec.New([]byte{byte(x), 1, 1})
		if y := r.Byte(); y != byte(x) {
			t.Errorf("%d: %d", x, y)
		}
		expect(t, "byte", r, api.OK, 2)
		r = codec.New([]byte{byte(x), 1, 1})
		if y := r.Truth(); y != (x == 1) {
			t.Errorf("%d: %v", x, y)
		}
		want := api.ErrForm
		if x < 2 {
			want = api.OK
		}
		expect(t, "truth", r, want, 2)
	}
}

// mosts are bounds below, at and above n.
func mosts(n int) []int {
	return []int{math.MinInt, -1, 0, n - 1, n, n + 1, 255, 256, api.MaxBytes - 1, api.MaxBytes, api.MaxBytes + 1, 1 << 24, math.MaxInt}
}

// P2.2: a count, and a text's count, may be as great as their most, and never above MaxBytes.
func TestReadLimits(t *testing.T) {
	for _, n := range append([]int{api.MaxBytes + 1, 1<<24 - 2, 1<<24 - 1}, counts...) {
		head := []byte{byte(n >> 16), byte(n >> 8), byte(n)}
		for _, most := range mosts(n) {
			fits := n <= most && n <= api.MaxBytes
			r := codec.New(append(head, 7))
			if got := r.Count(most); fits && got != n || !fits && got != 0 {
				t.Errorf("count %d of %d: %d", n, most, got)
			}
			expect(t, "count", r, errOf(fits), 1)

			bytes := append(append(head[:3:3], text(n)...), 7)
			r = codec.New(bytes)
			got := r.Text(most)
			if fits {
				if string(got) != string(text(n)) {
					t.Errorf("text %d of %d", n, most)
				}
				expect(t, "text", r, api.OK, 1)
			} else {
				if len(got) != 0 {
					t.Errorf("text %d of %d: %d bytes", n, most, len(got))
				}
				expect(t, "text", r, api.ErrLimit, n+1)
			}
		}
	}
}

func errOf(fits bool) api.Errno {
	if fits {
		return api.OK
	}
	return api.ErrLimit
}

// P2.2: a row may have as many numbers as its most.
func TestReadRowLimits(t *testing.T) {
	for _, n := range []int{0, 1, 2, 7, 8, 254, 255} {
		bytes := append(written(func(w *codec.Writer) { w.Row(row(n)) }), 7)
		for _, most := range mosts(n) {
			r := codec.New(bytes)
			got := r.Row(most)
			if n <= most {
				if !slices.Equal(got, row(n)) {
					t.Errorf("row %d of %d: %d", n, most, got)
				}
				expect(t, "row", r, api.OK, 1)
			} else {
				if len(got) != 0 {
					t.Errorf("row %d of %d: %d", n, most, got)
				}
				expect(t, "row", r, api.ErrLimit, 8*n+1)
			}
		}
	}
}

// P2.2: a limit is met ahead of the bytes behind it, which are not read then, whether they are there or not.
func TestLimitAheadOfEnd(t *testing.T) {
	for _, behind := range [][]byte{nil, {1}, text(4)} {
		r := codec.New(append([]byte{0, 0, 5}, behind...))
		if b := r.Text(4); len(b) != 0 {
			t.Errorf("% d", b)
		}
		expect(t, "text", r, api.ErrLimit, len(behind))
		r = codec.New(append([]byte{2}, behind...))
		if x := r.Row(1); len(x) != 0 {
			t.Errorf("%d", x)
		}
		expect(t, "row", r, api.ErrLimit, len(behind))
	}
	for _, short := range [][]byte{nil, {255}, {255, 255}} {
		r := codec.New(short)
		r.Count(-1)
		expect(t, "count", r, api.ErrEnd, len(short))
		r = codec.New(short)
		r.Text(-1)
		expect(t, "text", r, api.ErrEnd, len(short))
	}
	r := codec.New(nil)
	r.Row(-1)
	expect(t, "row", r, api.ErrEnd, 0)
}

// P2.2: the first error stays, whichever it is, though what follows would be another one.
func TestFirstErrorStays(t *testing.T) {
	first := map[api.Errno]func(r *codec.Reader){
		api.ErrForm:  func(r *codec.Reader) { r.Truth() },
		api.ErrLimit: func(r *codec.Reader) { r.Row(8) },
		api.ErrEnd:   func(r *codec.Reader) { r.Text(api.MaxBytes) },
		api.ErrMore:  func(r *codec.Reader) { r.End() },
	}
	for want, meet := range first {
		for _, then := range first {
			r := codec.New([]byte{9, 0, 1, 1, 1, 1})
			meet(r)
			left := r.Left()
			then(r)
			expect(t, "first", r, want, left)
		}
	}
}

// P2.2
func TestEnd(t *testing.T) {
	r := codec.New([]byte{1, 2})
	if e := r.End(); e != api.ErrMore {
		t.Error(e)
	}
	expect(t, "at the beginning", r, api.ErrMore, 2)
	r = codec.New([]byte{1, 2})
	r.Byte()
	if e := r.End(); e != api.ErrMore {
		t.Error(e)
	}
	expect(t, "within", r, api.ErrMore, 1)
	r = codec.New([]byte{1, 2})
	r.Byte()
	r.Byte()
	for range 2 {
		if e := r.End(); e != api.OK || r.Err() != api.OK {
			t.Error(e, r.Err())
		}
	}
	r.Byte()
	expect(t, "behind", r, api.ErrEnd, 0)
}

// P2.2: what is handed in isn't kept, and stays as it is.
func TestReaderLeavesArguments(t *testing.T) {
	whole := written(func(w *codec.Writer) {
		w.Text(text(50))
		w.Row(row(5))
		w.Digest(digest())
	})
	b := slices.Clone(whole)
	r := codec.New(b[:len(b)-1])
	r.Text(50)
	r.Row(5)
	r.Digest()
	check(t, "handed in", b, whole...)

	r = codec.New(b)
	spoil(b)
	if x := r.Text(50); string(x) != string(text(50)) {
		t.Errorf("% d", x)
	}
	if x := r.Row(5); !slices.Equal(x, row(5)) {
		t.Error(x)
	}
	if d := r.Digest(); d != digest() {
		t.Error(d)
	}
	expect(t, "whole", r, api.OK, 0)
}

// P2.2: what was told may be written over, its spare room too: neither what follows nor what was told ahead turns by it.
func TestToldPartsAreNew(t *testing.T) {
	r := codec.New(written(func(w *codec.Writer) {
		for range 3 {
			w.Text(text(20))
			w.Row(row(3))
		}
	}))
	var texts [][]byte
	var rows []api.Row
	for range 3 {
		x, y := r.Text(20), r.Row(3)
		if string(x) != string(text(20)) || !slices.Equal(y, row(3)) {
			t.Errorf("% d, %d", x, y)
		}
		texts, rows = append(texts, slices.Clone(x)), append(rows, slices.Clone(y))
		spoil(x)
		clear(y[:cap(y)])
	}
	for i := range texts {
		if string(texts[i]) != string(text(20)) || !slices.Equal(rows[i], row(3)) {
			t.Errorf("% d, %d", texts[i], rows[i])
		}
	}
	expect(t, "whole", r, api.OK, 0)
}

// P2.2: readers of the same bytes know nothing of each other.
func TestReadersApart(t *testing.T) {
	b := []byte{2, 1, 0}
	x, y := codec.New(b), codec.New(b)
	x.Truth()
	expect(t, "one", x, api.ErrForm, 2)
	if n := y.Count(api.MaxBytes); n != 0x020100 {
		t.Error(n)
	}
	expect(t, "another", y, api.OK, 0)
}
