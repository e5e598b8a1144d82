package morton_test

import (
	"math/rand"
	"slices"
	"testing"

	"indenture/morton"
)

// P5.2
func TestCmpKnown(t *testing.T) {
	for _, k := range []struct {
		a, b []byte
		want int
	}{
		{nil, nil, 0}, {nil, []byte{}, 0}, {[]byte{}, nil, 0},
		{[]byte{0}, []byte{0}, 0}, {[]byte{0}, []byte{1}, -1}, {[]byte{127}, []byte{128}, -1}, {[]byte{0}, []byte{255}, -1},
		{[]byte{1, 2, 3}, []byte{1, 2, 3}, 0}, {[]byte{1, 2, 3}, []byte{1, 2, 4}, -1}, {[]byte{1, 2, 3}, []byte{2, 0, 0}, -1}, {[]byte{1, 255, 255}, []byte{2, 0, 0}, -1}, {[]byte{1, 2, 9}, []byte{1, 3, 0}, -1},
		{bytesOf(8), bytesOf(7, 1), -1}, {pattern([]byte{127}, 7, 255), pattern([]byte{128}, 7, 0), -1},
		// A shorter one ahead of a longer one, whatever their bytes.
		{nil, []byte{0}, -1}, {[]byte{0}, []byte{0, 0}, -1}, {[]byte{255}, []byte{0, 0}, -1}, {[]byte{5}, []byte{0, 5}, -1}, {[]byte{1}, []byte{1, 0}, -1}, {[]byte{9, 9}, []byte{0, 0, 1}, -1},
		{pattern(nil, 8, 255), bytesOf(16), -1}, {pattern(nil, 56, 255), bytesOf(64), -1},
	} {
		if got := morton.Cmp(k.a, k.b); got != k.want {
			t.Errorf("%d and %d: %d", k.a, k.b, got)
		}
		if got := morton.Cmp(k.b, k.a); got != -k.want {
			t.Errorf("%d and %d: %d", k.b, k.a, got)
		}
	}
}

// P5.2: codes stand by their bytes, as numbers; a shorter one ahead.
func TestCmpAll(t *testing.T) {
	random := rand.New(rand.NewSource(3))
	var l [][]byte
	for range 150 {
		c := make([]byte, random.Intn(3)*8)
		random.Read(c)
		l = append(l, c)
		if len(c) > 0 {
			other := slices.Clone(c)
			other[random.Intn(len(c))] ^= 1 << random.Intn(8)
			l = append(l, other)
		}
	}
	for _, a := range l {
		for _, b := range l {
			want := number(a).Cmp(number(b))
			if len(a) < len(b) {
				want = -1
			}
			if len(a) > len(b) {
				want = 1
			}
			if got := morton.Cmp(a, b); got != want {
				t.Errorf("%d and %d: %d", a, b, got)
			}
		}
	}
}

// P5.2: each bit of a code, of points' ones and of any bytes; 0 of those that it hasn't.
func TestBit(t *testing.T) {
	random := rand.New(rand.NewSource(4))
	for n := range 70 {
		c := make([]byte, n)
		random.Read(c)
		for _, c := range [][]byte{c, pattern(nil, n, 255), bytesOf(n)} {
			want := text(number(c), 8*n)
			for i := range 8 * n {
				if got := morton.Bit(c, i); got != want[i]-'0' {
					t.Errorf("%d: bit %d: %d", c, i, got)
				}
			}
		}
	}
	for d := 1; d <= 8; d++ {
		p := point(random, d)
		c := code(t, p)
		for i := range 64 * d {
			if got := morton.Bit(c, i); got != digits(p[i%d])[i/d]-'0' {
				t.Errorf("%d: bit %d: %d", p, i, got)
			}
		}
	}
}

// P5.2: 0 of a bit that it hasn't: below 0, the first one behind the last one, far ones; spare room doesn't count.
func TestBitBeyond(t *testing.T) {
	for n := range 66 {
		c := pattern(nil, n, 255)
		for _, i := range []int{least, least + 1, least / 2, -1 << 32, -513, -64, -9, -8, -7, -1, 8 * n, 8*n + 1, 8*n + 7, 8*n + 8, 8*n + 64, 1 << 32, 1 << 40, greatest - 7, greatest} {
			if got := morton.Bit(c, i); got != 0 {
				t.Errorf("%d bytes: bit %d: %d", n, i, got)
			}
			if got := morton.Bit(pattern(nil, 80, 255)[:n], i); got != 0 {
				t.Errorf("%d bytes of 80: bit %d: %d", n, i, got)
			}
		}
	}
	for _, i := range []int{least, -1, 0, 1, 8, greatest} {
		if got := morton.Bit(nil, i); got != 0 {
			t.Errorf("none: bit %d: %d", i, got)
		}
	}
}

// P5.3
func TestNextKnown(t *testing.T) {
	for _, k := range []struct{ c, want []byte }{
		{[]byte{0}, []byte{1}}, {[]byte{127}, []byte{128}}, {[]byte{254}, []byte{255}},
		{[]byte{0, 255}, []byte{1, 0}}, {[]byte{7, 255, 255}, []byte{8, 0, 0}}, {[]byte{255, 255, 0}, []byte{255, 255, 1}}, {[]byte{255, 0, 255}, []byte{255, 1, 0}},
		{[]byte{3, 254, 255, 255}, []byte{3, 255, 0, 0}}, {pattern([]byte{0}, 7, 255), pattern([]byte{1}, 7, 0)}, {pattern([]byte{127}, 63, 255), pattern([]byte{128}, 63, 0)},
		{pattern(pattern(nil, 7, 255), 1, 254), pattern(nil, 8, 255)}, {bytesOf(64), bytesOf(63, 1)},
	} {
		if got, ok := morton.Next(k.c); !slices.Equal(got, k.want) || !ok {
			t.Errorf("%d: %d, %t", k.c, got, ok)
		}
	}
}

// P5.3: all codes of one byte and of two, and others of each length: the number that follows.
func TestNextAll(t *testing.T) {
	for n := range 1<<16 - 1 {
		got, ok := morton.Next([]byte{byte(n >> 8), byte(n)})
		if !slices.Equal(got, []byte{byte((n + 1) >> 8), byte(n + 1)}) || !ok {
			t.Fatalf("%d: %d, %t", n, got, ok)
		}
	}
	for n := range 255 {
		if got, ok := morton.Next([]byte{byte(n)}); !slices.Equal(got, []byte{byte(n + 1)}) || !ok {
			t.Errorf("%d: %d, %t", n, got, ok)
		}
	}
	random := rand.New(rand.NewSource(5))
	for n := 1; n <= 70; n++ {
		for full := range n {
			c := make([]byte, n)
			random.Read(c[:n-full])
			c[n-full-1] &= 0x7f
			copy(c[n-full:], pattern(nil, full, 255))
			got, ok := morton.Next(c)
			want := number(c)
			want.Add(want, number([]byte{1}))
			if len(got) != n || number(got).Cmp(want) != 0 || !ok || morton.Cmp(c, got) != -1 {
				t.Errorf("%d: %d, %t", c, got, ok)
			}
		}
	}
}

// P5.3: none and false, if all bits are 1, or there are no bytes.
func TestNextNone(t *testing.T) {
	for n := range 70 {
		if got, ok := morton.Next(pattern(nil, n, 255)); len(got) != 0 || ok {
			t.Errorf("%d bytes: %d, %t", n, got, ok)
		}
		if got, ok := morton.Next(bytesOf(80)[:0]); len(got) != 0 || ok {
			t.Errorf("spare room counts: %d, %t", got, ok)
		}
	}
	if got, ok := morton.Next(nil); len(got) != 0 || ok {
		t.Errorf("none: %d, %t", got, ok)
	}
}

// P5.2, P5.3: what is handed in stays as it is, its spare room too; what was told may be written over.
func TestPlaceMemory(t *testing.T) {
	for _, first := range [][]byte{{1, 255, 255, 8, 8, 8}, {255, 255, 255, 8, 8, 8}, {1, 2, 3, 255, 255, 255}} {
		room, other := slices.Clone(first), []byte{1, 255, 255}
		c := room[:3]
		morton.Cmp(c, other)
		morton.Cmp(other, c)
		for i := range 60 {
			morton.Bit(c, i-10)
		}
		next, ok := morton.Next(c)
		again, _ := morton.Next(c)
		want := slices.Clone(again)
		overwrite(next)
		if !slices.Equal(room, first) || !slices.Equal(other, []byte{1, 255, 255}) {
			t.Error("a code was changed", room, other)
		}
		overwrite(c)
		if !slices.Equal(again, want) || ok != (first[0] != 255) {
			t.Error("codes share memory", again, ok)
		}
	}
}
