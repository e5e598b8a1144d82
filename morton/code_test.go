package morton_test

import (
	"math/rand"
	"slices"
	"testing"

	"indenture/api"
	"indenture/morton"
)

// known are points and their codes, worked out by hand.
var known = []struct {
	p api.Row
	c []byte
}{
	// The chapter's examples.
	{api.Row{0}, []byte{128, 0, 0, 0, 0, 0, 0, 0}},
	{api.Row{least, least + 1}, bytesOf(15, 1)},
	{api.Row{least + 1, least}, bytesOf(15, 2)},
	// One number: its bytes.
	{api.Row{least}, bytesOf(8)},
	{api.Row{greatest}, pattern(nil, 8, 255)},
	{api.Row{-1}, pattern([]byte{127}, 7, 255)},
	{api.Row{1}, []byte{128, 0, 0, 0, 0, 0, 0, 1}},
	{api.Row{0x0102030405060708}, []byte{129, 2, 3, 4, 5, 6, 7, 8}},
	// Two: 1 and 0 by turns.
	{api.Row{0, 0}, pattern([]byte{192}, 15, 0)},
	{api.Row{0, -1}, pattern([]byte{0x95}, 15, 0x55)},
	{api.Row{-1, 0}, pattern([]byte{0x6a}, 15, 0xaa)},
	{api.Row{greatest, least}, pattern(nil, 16, 0xaa)},
	{api.Row{least, greatest}, pattern(nil, 16, 0x55)},
	// Three: a number's bits lie across the bytes.
	{api.Row{0, 0, 0}, pattern([]byte{224}, 23, 0)},
	{api.Row{least, least, least + 1}, bytesOf(23, 1)},
	{api.Row{least, least + 1, least}, bytesOf(23, 2)},
	{api.Row{least + 1, least, least}, bytesOf(23, 4)},
	{api.Row{least, least, least + 4}, bytesOf(23, 64)},
	{api.Row{least + 4, least, least}, bytesOf(22, 1, 0)},
	{api.Row{least, least, greatest}, pattern(nil, 8, 0x24, 0x92, 0x49)},
	// Eight: a byte has one bit of each.
	{all(8, 0), pattern([]byte{255}, 63, 0)},
	{all(8, least), bytesOf(64)},
	{all(8, greatest), pattern(nil, 64, 255)},
	{api.Row{greatest, least, least, least, least, least, least, greatest}, pattern(nil, 64, 0x81)},
	{api.Row{least, least + 2, least, least, least, least, least, least + 1}, bytesOf(62, 64, 1)},
}

// P5.1
func TestCodeKnown(t *testing.T) {
	for _, k := range known {
		if got, err := morton.Code(k.p); !slices.Equal(got, k.c) || err != api.OK {
			t.Errorf("%d: %d, %d", k.p, got, err)
		}
	}
}

// P5.1
func TestPointKnown(t *testing.T) {
	for _, k := range known {
		if got, err := morton.Point(k.c, len(k.p)); !slices.Equal(got, k.p) || err != api.OK {
			t.Errorf("%d: %d, %d", k.c, got, err)
		}
	}
}

// P5.1: each bit of each number alone has its place.
func TestCodeEachBit(t *testing.T) {
	for d := 1; d <= 8; d++ {
		for i := range d {
			for bit := range 64 {
				p := flip(all(d, least), i, bit)
				want := make([]byte, 8*d)
				place := bit*d + i
				want[place/8] = 128 >> (place % 8)
				if got, err := morton.Code(p); !slices.Equal(got, want) || err != api.OK {
					t.Errorf("%d: %d, %d", p, got, err)
				}
				if got, err := morton.Point(want, d); !slices.Equal(got, p) || err != api.OK {
					t.Errorf("%d: %d, %d", want, got, err)
				}
			}
		}
	}
}

// P5.1: ordinary points and edges, of each count of numbers, held against the words of a code.
func TestCodeAll(t *testing.T) {
	random := rand.New(rand.NewSource(1))
	for d := 1; d <= 8; d++ {
		for range 200 {
			p := point(random, d)
			got, err := morton.Code(p)
			if len(got) != 8*d || err != api.OK {
				t.Fatalf("%d: %d, %d", p, got, err)
			}
			if woven(p) != text(number(got), 64*d) {
				t.Errorf("%d: %d", p, got)
			}
			back, err := morton.Point(got, d)
			if !slices.Equal(back, p) || err != api.OK {
				t.Errorf("%d: %d, %d", got, back, err)
			}
		}
	}
}

// P5.1: any bytes are a code, if they are 8 d.
func TestPointAll(t *testing.T) {
	random := rand.New(rand.NewSource(2))
	for d := 1; d <= 8; d++ {
		for range 200 {
			c := make([]byte, 8*d)
			random.Read(c)
			got, err := morton.Point(c, d)
			if len(got) != d || err != api.OK {
				t.Fatalf("%d: %d, %d", c, got, err)
			}
			if woven(got) != text(number(c), 64*d) {
				t.Errorf("%d: %d", c, got)
			}
		}
	}
}

// P5.1: from 1 to 8 numbers; else ErrArg and no code.
func TestCodeRefused(t *testing.T) {
	for n := range 30 {
		got, err := morton.Code(all(n, 3))
		if n >= 1 && n <= 8 {
			if len(got) != 8*n || err != api.OK {
				t.Errorf("%d numbers: %d, %d", n, got, err)
			}
		} else if len(got) != 0 || err != api.ErrArg {
			t.Errorf("%d numbers: %d, %d", n, got, err)
		}
	}
	for _, p := range []api.Row{nil, {}} {
		if got, err := morton.Code(p); len(got) != 0 || err != api.ErrArg {
			t.Errorf("no numbers: %d, %d", got, err)
		}
	}
	if got, err := morton.Code(all(8, 3)[:0]); len(got) != 0 || err != api.ErrArg {
		t.Errorf("spare room counts: %d, %d", got, err)
	}
}

// P5.1: ErrArg, if d isn't from 1 to 8, whatever the code; ErrForm, if the code hasn't 8 d bytes; no point beside either.
func TestPointRefused(t *testing.T) {
	for _, d := range []int{least, least / 8, -9, -8, -1, 0, 1, 2, 3, 4, 5, 6, 7, 8, 9, 10, 16, 256, 1 << 32, 1<<61 + 1, greatest} {
		for n := range 140 {
			want := api.OK
			switch {
			case d < 1 || d > 8:
				want = api.ErrArg
			case n != 8*d:
				want = api.ErrForm
			}
			got, err := morton.Point(bytesOf(n), d)
			if err != want || want != api.OK && len(got) != 0 || want == api.OK && !slices.Equal(got, all(d, least)) {
				t.Errorf("%d dimensions, %d bytes: %d, %d", d, n, got, err)
			}
		}
	}
	for d := 1; d <= 8; d++ {
		if got, err := morton.Point(nil, d); len(got) != 0 || err != api.ErrForm {
			t.Errorf("%d dimensions, none: %d, %d", d, got, err)
		}
		if got, err := morton.Point(bytesOf(64)[:8*d-1], d); len(got) != 0 || err != api.ErrForm {
			t.Errorf("%d dimensions, spare room counts: %d, %d", d, got, err)
		}
	}
	for _, d := range []int{least, -1, 0, 9, greatest} {
		if got, err := morton.Point(nil, d); len(got) != 0 || err != api.ErrArg {
			t.Errorf("%d dimensions, none: %d, %d", d, got, err)
		}
	}
}

// P5.1: what is handed in stays as it is, its spare room too; what was told may be written over.
func TestCodeMemory(t *testing.T) {
	room := api.Row{5, -6, 7, 50, 51, 52, 53, 54, 55}
	p := room[:3]
	c := code(t, p)
	again := code(t, p)
	overwrite(c)
	if !slices.Equal(room, api.Row{5, -6, 7, 50, 51, 52, 53, 54, 55}) {
		t.Error("the point was changed", room)
	}
	if third := code(t, p); !slices.Equal(third, again) {
		t.Error("codes share memory")
	}

	bytes := pattern(again, 40, 9)
	stayed := slices.Clone(bytes)
	q, _ := morton.Point(bytes[:24], 3)
	r, _ := morton.Point(bytes[:24], 3)
	for i := range q[:cap(q)] {
		q[:cap(q)][i] = 77
	}
	if !slices.Equal(bytes, stayed) {
		t.Error("the code was changed", bytes)
	}
	overwrite(bytes)
	if !slices.Equal(r, api.Row{5, -6, 7}) {
		t.Error("points share memory", r)
	}
}

// overwrite writes over bytes, their spare room too.
func overwrite(c []byte) {
	for i := range c[:cap(c)] {
		c[:cap(c)][i] = 0xee
	}
}
