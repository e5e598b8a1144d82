package wal_test

import (
	"math"
	"testing"

	"indenture/api"
	"indenture/wal"
)

// P8.3: the chapter's example.
func TestExample(t *testing.T) {
	for n, want := range map[int]int{0: 1, 19: 1, 20: 2, 83: 2, 84: 3} {
		if got := wal.Need(n); got != want {
			t.Errorf("Need(%d): %d, not %d", n, got, want)
		}
	}
	l := opened(t, made(t, 3))
	appended(t, l, []byte("abc"), api.OK)
	if l.Free() != 2 {
		t.Error("Free:", l.Free())
	}
}

// P8.3: Need of each length that a record may have; its sectors are counted one by one.
func TestNeedAll(t *testing.T) {
	sectors, room := 1, 19
	for n := range longest + 1 {
		if n > room {
			sectors, room = sectors+1, room+size
		}
		if got := wal.Need(n); got != sectors {
			t.Fatalf("Need(%d): %d, not %d", n, got, sectors)
		}
	}
	if sectors != 1564 {
		t.Error("the longest one has", sectors)
	}
}

// P8.3: no record has such a length.
func TestNeedBeyond(t *testing.T) {
	for _, n := range []int{-1, -2, -19, -64, -longest, math.MinInt, math.MinInt + 63, longest + 1, longest + 63, longest + 64, api.MaxBytes, math.MaxInt32, math.MaxInt - 63, math.MaxInt} {
		if got := wal.Need(n); got != 0 {
			t.Errorf("Need(%d): %d", n, got)
		}
	}
}
