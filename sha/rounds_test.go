package sha

import (
	"encoding/binary"
	"math"
	"testing"
)

// P1.1: lengths whose bits need more than four bytes are written whole, too; a text so long would take too long here.
func TestFilling(t *testing.T) {
	for _, length := range []uint64{0, 1, 54, 55, 56, 63, 64, 65, 1<<29 - 1, 1 << 29, 1<<31 - 1, 1<<40 + 3} {
		f := filling(length)
		zeros := f[1 : len(f)-8]
		if f[0] != 128 || len(zeros) > 63 || (length+uint64(len(f)))%64 != 0 {
			t.Errorf("%d: % x", length, f)
		}
		for _, z := range zeros {
			if z != 0 {
				t.Errorf("%d: % x", length, f)
			}
		}
		if got := binary.BigEndian.Uint64(f[len(f)-8:]); got != 8*length {
			t.Errorf("%d: %d bits", length, got)
		}
	}
}

// P1.1: the words follow from the primes' roots, as FIPS 180-4 says.
func TestWords(t *testing.T) {
	primes := firstPrimes(rounds)
	for i, w := range firstWords() {
		if want := behindPoint(math.Sqrt(float64(primes[i]))); w != want {
			t.Errorf("first word %d: %x, not %x", i, w, want)
		}
	}
	for i, w := range roundWords() {
		if want := behindPoint(math.Cbrt(float64(primes[i]))); w != want {
			t.Errorf("round word %d: %x, not %x", i, w, want)
		}
	}
}

func behindPoint(x float64) uint32 {
	return uint32((x - math.Floor(x)) * (1 << 32))
}

func firstPrimes(n int) []int {
	var out []int
next:
	for c := 2; len(out) < n; c++ {
		for _, p := range out {
			if c%p == 0 {
				continue next
			}
		}
		out = append(out, c)
	}
	return out
}
