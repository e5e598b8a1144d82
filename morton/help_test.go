package morton_test

import (
	"math"
	"math/big"
	"math/rand"
	"slices"
	"strings"
	"testing"

	"indenture/api"
	"indenture/morton"
)

const (
	least    = math.MinInt64
	greatest = math.MaxInt64
)

// edges: where signs, halves and ends meet.
var edges = []int64{least, least + 1, -1 << 32, -3, -1, 0, 1, 2, 10, 1 << 32, greatest - 1, greatest}

// point tells a point of n numbers, edges and others mixed.
func point(random *rand.Rand, n int) api.Row {
	p := make(api.Row, n)
	for i := range p {
		p[i] = edges[random.Intn(len(edges))]
		if random.Intn(2) == 0 {
			p[i] = int64(random.Uint64()) >> random.Intn(64)
		}
	}
	return p
}

// near tells a point that is like p in many numbers, or in their higher bits.
func near(random *rand.Rand, p api.Row) api.Row {
	q := slices.Clone(p)
	for i := range q {
		if random.Intn(2) == 0 {
			q[i] ^= int64(random.Uint64() >> random.Intn(64))
		}
	}
	return q
}

func all(n int, x int64) api.Row {
	p := make(api.Row, n)
	for i := range p {
		p[i] = x
	}
	return p
}

// flip turns one bit of a number of a point, the highest one being 0.
func flip(p api.Row, i, bit int) api.Row {
	q := slices.Clone(p)
	q[i] = int64(uint64(q[i]) ^ 1<<(63-bit))
	return q
}

// grid tells all points of n numbers of a few ones.
func grid(n int, numbers ...int64) []api.Row {
	l := []api.Row{{}}
	for range n {
		var longer []api.Row
		for _, p := range l {
			for _, x := range numbers {
				longer = append(longer, append(slices.Clone(p), x))
			}
		}
		l = longer
	}
	return l
}

// digits tells the 64 bits of a number and 2^63 together, the highest first, by numbers without bound.
func digits(x int64) string {
	n := new(big.Int).Add(big.NewInt(x), new(big.Int).Lsh(big.NewInt(1), 63))
	return text(n, 64)
}

// text tells so many bits of a number.
func text(n *big.Int, bits int) string {
	s := n.Text(2)
	if n.Sign() == 0 {
		s = ""
	}
	return strings.Repeat("0", bits-len(s)) + s
}

// woven says the words of a code as they stand: the highest bit of each number, then the second one of each, and so on.
func woven(p api.Row) string {
	var numbers []string
	for _, x := range p {
		numbers = append(numbers, digits(x))
	}
	var b strings.Builder
	for place := range 64 {
		for _, n := range numbers {
			b.WriteByte(n[place])
		}
	}
	return b.String()
}

// number tells a code as a number without bound.
func number(c []byte) *big.Int {
	return new(big.Int).SetBytes(c)
}

// bytesOf tells so many zeros, and the bytes behind them.
func bytesOf(zeros int, last ...byte) []byte {
	return append(make([]byte, zeros), last...)
}

// pattern tells some bytes again and again, behind those ahead of them.
func pattern(ahead []byte, times int, again ...byte) []byte {
	return append(slices.Clone(ahead), slices.Repeat(again, times)...)
}

// code tells the code of a point that has one.
func code(t *testing.T, p api.Row) []byte {
	t.Helper()
	c, err := morton.Code(p)
	if err != api.OK {
		t.Fatalf("%d: error %d", p, err)
	}
	return c
}
