package dist_test

import (
	"math"
	"math/big"
	"math/rand"
	"testing"

	"indenture/api"
	"indenture/dist"
)

// words: of a distance, where carries begin and end.
var words = []uint64{0, 1, 2, 9, 10, 1<<32 - 1, 1 << 32, 1 << 63, 1<<63 - 1, math.MaxUint64 - 1, math.MaxUint64}

func allDists() []api.Dist {
	var l []api.Dist
	for _, hi := range words {
		for _, lo := range words {
			l = append(l, api.Dist{Hi: hi, Lo: lo})
		}
	}
	return l
}

// cut tells n modulo 2^128.
func cut(n *big.Int) *big.Int {
	return n.And(n, new(big.Int).Sub(new(big.Int).Lsh(big.NewInt(1), 128), big.NewInt(1)))
}

// P3.2
func TestAdd(t *testing.T) {
	for _, d := range allDists() {
		for _, n := range words {
			want := cut(new(big.Int).Add(whole(d), wide(n)))
			if got := dist.Add(d, n); whole(got).Cmp(want) != 0 {
				t.Errorf("%d and %d: %d", d, n, got)
			}
		}
	}
	if got := dist.Add(api.Dist{Lo: math.MaxUint64}, 1); got != (api.Dist{Hi: 1}) {
		t.Errorf("a carry: %d", got)
	}
	if got := dist.Add(api.Dist{Hi: math.MaxUint64, Lo: math.MaxUint64}, 1); got != (api.Dist{}) {
		t.Errorf("round: %d", got)
	}
}

// P3.2
func TestSum(t *testing.T) {
	if dist.Sum(nil) != (api.Dist{}) || dist.Sum([]uint64{}) != (api.Dist{}) {
		t.Error("of none")
	}
	if got := dist.Sum([]uint64{5}); got != (api.Dist{Lo: 5}) {
		t.Errorf("of one: %d", got)
	}
	if got := dist.Sum([]uint64{math.MaxUint64, 1, math.MaxUint64, 2}); got != (api.Dist{Hi: 2, Lo: 1}) {
		t.Errorf("of carries: %d", got)
	}
	random := rand.New(rand.NewSource(4))
	for n := range 200 {
		l, want := make([]uint64, n), new(big.Int)
		for i := range l {
			l[i] = random.Uint64() >> random.Intn(64)
			if random.Intn(2) == 0 {
				l[i] = words[random.Intn(len(words))]
			}
			want.Add(want, wide(l[i]))
		}
		if got := dist.Sum(l); whole(got).Cmp(want) != 0 {
			t.Errorf("%d: %d", l, got)
		}
	}
}

// P3.2: a long list, beyond any count of sides.
func TestSumLong(t *testing.T) {
	l := make([]uint64, 100000)
	for i := range l {
		l[i] = math.MaxUint64
	}
	if got := dist.Sum(l); got != (api.Dist{Hi: 99999, Lo: math.MaxUint64 - 99999}) {
		t.Errorf("%d", got)
	}
}

// P3.2
func TestCmp(t *testing.T) {
	for _, a := range allDists() {
		for _, b := range allDists() {
			if got := dist.Cmp(a, b); got != whole(a).Cmp(whole(b)) {
				t.Errorf("%d, %d: %d", a, b, got)
			}
		}
	}
}

// P3.4
func TestTextKnown(t *testing.T) {
	known := []struct {
		d    api.Dist
		want string
	}{
		{api.Dist{}, "0"}, {api.Dist{Lo: 7}, "7"}, {api.Dist{Lo: 10}, "10"}, {api.Dist{Lo: 120}, "120"}, {api.Dist{Lo: 987654321}, "987654321"},
		{api.Dist{Hi: 1}, "18446744073709551616"}, {api.Dist{Lo: math.MaxUint64}, "18446744073709551615"},
		{api.Dist{Hi: 10}, "184467440737095516160"},
		{api.Dist{Hi: math.MaxUint64, Lo: math.MaxUint64}, "340282366920938463463374607431768211455"},
	}
	for _, k := range known {
		if got := dist.Text(k.d); got != k.want {
			t.Errorf("%d: %q", k.d, got)
		}
	}
}

// P3.4
func TestTextAll(t *testing.T) {
	for _, d := range allDists() {
		if got := dist.Text(d); got != whole(d).String() {
			t.Errorf("%d: %q", d, got)
		}
	}
	ten := big.NewInt(1)
	for range 39 { // each power of ten, and the one ahead of it
		for _, less := range []int64{0, 1} {
			n := new(big.Int).Sub(ten, big.NewInt(less))
			d := api.Dist{Hi: new(big.Int).Rsh(n, 64).Uint64(), Lo: cut64(n)}
			if got := dist.Text(d); got != n.String() {
				t.Errorf("%d: %q", d, got)
			}
		}
		ten.Mul(ten, big.NewInt(10))
	}
	random := rand.New(rand.NewSource(5))
	for range 2000 {
		d := api.Dist{Hi: random.Uint64() >> random.Intn(65), Lo: random.Uint64() >> random.Intn(65)}
		if got := dist.Text(d); got != whole(d).String() {
			t.Errorf("%d: %q", d, got)
		}
	}
}

// cut64 tells n modulo 2^64.
func cut64(n *big.Int) uint64 {
	return new(big.Int).And(n, wide(math.MaxUint64)).Uint64()
}
