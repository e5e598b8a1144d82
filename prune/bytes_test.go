package prune_test

import (
	"bytes"
	"math/rand"
	"slices"
	"testing"

	"indenture/api"
	"indenture/node"
	"indenture/prune"
)

// seven: the bytes of the number 7.
var seven = []byte{128, 0, 0, 0, 0, 0, 0, 7}

// known is a part with its bytes, put together by hand.
type known struct {
	dims  int
	part  api.Part
	bytes []byte
}

// knowns tells parts with their bytes: the chapter's examples, and a Fork above a closed part and an open one.
func knowns() []known {
	leafText := slices.Concat([]byte{2, 1, 1, 1}, seven, []byte{0})
	k := api.Kid{Sum: api.Digest{0: 9, 31: 5}, Live: 0x010203, Size: 0x0a0b0c, Box: api.Box{Lo: api.Row{7}, Hi: api.Row{7}}}
	kidText := slices.Concat(k.Sum[:], []byte{1, 2, 3, 10, 11, 12, 1}, seven, []byte{1}, seven, []byte{0})
	forkText := slices.Concat([]byte{1, 1, 0, 1}, seven, []byte{2}, make([]byte, 32+3+3+3), kidText)
	one := shut(leaf(api.Row{7}))
	two := opened(fork(dead(api.Row{7}), api.Kid{}, k), api.Part{}, one)
	three := opened(inner(withKey(k), withKey(k)), two, one)
	innerText := slices.Concat([]byte{3, 0, 2}, kidText[:len(kidText)-1], []byte{1}, seven, kidText[:len(kidText)-1], []byte{1}, seven)
	oneBytes := append([]byte{1, 0, 0, 13}, leafText...)
	twoBytes := slices.Concat([]byte{1, 0, 0, 111}, forkText, []byte{0}, oneBytes)
	return []known{
		{1, api.Part{}, []byte{0}},
		{8, api.Part{}, []byte{0}},
		{1, one, oneBytes},
		{1, two, twoBytes},
		{1, three, slices.Concat([]byte{1, 0, 0, 133}, innerText, twoBytes, oneBytes)},
	}
}

func withKey(k api.Kid) api.Kid {
	k.Key = api.Row{7}
	return k
}

// P15.1, P15.4: known parts, there and back.
func TestBytesKnown(t *testing.T) {
	for i, x := range knowns() {
		if b, err := prune.Encode(x.part, x.dims); !bytes.Equal(b, x.bytes) || err != api.OK {
			t.Errorf("%d: %d, error %d, not %d", i, b, err, x.bytes)
		}
		if p, err := prune.Decode(x.bytes, x.dims); !alike(p, x.part) || err != api.OK {
			t.Errorf("%d: %+v, error %d, not %+v", i, p, err, x.part)
		}
		if n := prune.Size(x.part, x.dims); n != len(x.bytes) {
			t.Errorf("%d: %d bytes, not %d", i, n, len(x.bytes))
		}
	}
}

// P15.1: a text longer than 255 bytes, and one longer than any other, with each count of Parts.
func TestBytesLong(t *testing.T) {
	long := opened(inner(keyed(8, 1), keyed(8, 2), keyed(8, 4), keyed(8, 5)), api.Part{}, shut(leaf(row(8, 1), row(8, 2), row(8, 3), row(8, 4))), api.Part{}, api.Part{})
	b := accepted(t, long, 8)
	if !bytes.HasPrefix(b, []byte{1, 0, 3, 167, 3, 0, 4}) || len(b) != 4+935+1+4+267+2 {
		t.Errorf("%d bytes: %d ..", len(b), b[:7])
	}
}

// P15.1: a part's bytes are a part's of its dimension alone; but those of a closed one, which are a part's of any.
func TestBytesOfDimensions(t *testing.T) {
	for d := 1; d <= 8; d++ {
		for i, p := range good(d) {
			b := bytesOf(t, p, d)
			for _, other := range dims {
				if other != d && p.Open {
					undecoded(t, b, other, i, d, other)
				} else if q, err := prune.Decode(b, other); !alike(q, p) || err != api.OK {
					t.Errorf("%d of %d dimensions, as one of %d: error %d", i, d, other, err)
				}
			}
		}
	}
}

// P15.1: a part's bytes cut, with bytes behind or ahead of them, are none's.
func TestBytesCutAndLonger(t *testing.T) {
	for _, d := range []int{1, 2, 8} {
		for i, p := range good(d) {
			b := bytesOf(t, p, d)
			for end := range b {
				undecoded(t, b[:end], d, i, d, end)
			}
			for _, more := range []byte{0, 1, 2, 255} {
				undecoded(t, append(slices.Clip(b), more), d, i, d, more)
			}
			undecoded(t, append(slices.Clip(b), b...), d, i, d)
			undecoded(t, append([]byte{0}, b...), d, i, d)
			undecoded(t, append([]byte{1}, b...), d, i, d)
		}
	}
}

// parse reads bytes as a part's, far from strictly, and tells what is left; whether they are a part's can be told by those that it has.
func parse(b []byte, d int) (p api.Part, rest []byte, ok bool) {
	if len(b) == 0 || b[0] == 0 {
		return api.Part{}, b[min(1, len(b)):], len(b) > 0
	}
	if len(b) < 4 {
		return api.Part{}, nil, false
	}
	end := 4 + int(b[1])<<16 + int(b[2])<<8 + int(b[3])
	if end > len(b) {
		return api.Part{}, nil, false
	}
	n, err := node.Decode(b[4:end], d)
	p, rest, ok = opened(n), b[end:], err == api.OK
	for range n.Kids {
		if ok {
			var below api.Part
			below, rest, ok = parse(rest, d)
			p.Parts = append(p.Parts, below)
		}
	}
	return p, rest, ok
}

// judged reads bytes whatever they are, and tells whether they are a part's.
func judged(t *testing.T, b []byte, d int, what ...any) bool {
	t.Helper()
	p, rest, ok := parse(b, d)
	if !ok || len(rest) > 0 || !mayBe(p, d) || !bytes.Equal(bytesOf(t, p, d), b) {
		undecoded(t, b, d, what...)
		return false
	}
	if q, err := prune.Decode(b, d); !alike(q, p) || err != api.OK {
		t.Errorf("Decode: error %d, or another part: %v", err, what)
	}
	return true
}

// P15.1: a part's bytes of which one, whichever, is turned to any other one are another part's, or none's; just as the words say.
func TestBytesTurned(t *testing.T) {
	for _, x := range []struct{ dims, part, taken int }{{1, 0, 0}, {1, 1, 2000}, {1, 3, 10000}, {1, 7, 10000}, {2, 8, 10000}, {1, 9, 10000}, {1, 10, 10000}, {3, 1, 6000}} {
		p := good(x.dims)[x.part]
		b := bytesOf(t, p, x.dims)
		taken := 0
		for at, was := range b {
			for turned := range 256 {
				if b[at] = byte(turned); turned != int(was) && judged(t, b, x.dims, x, at, turned) {
					taken++
				}
			}
			b[at] = was
		}
		if taken < x.taken {
			t.Errorf("%+v: just %d are another part's", x, taken)
		}
	}
}

// joined tells the bytes of a part in which the text of the open one of a number, and how many bytes it is said to have, are turned.
func joined(t *testing.T, p api.Part, d, number int, turn func(length int, text []byte) (int, []byte)) []byte {
	t.Helper()
	next := 0
	var bytesBelow func(p api.Part) []byte
	bytesBelow = func(p api.Part) []byte {
		if !p.Open {
			return []byte{0}
		}
		text, err := node.Encode(p.Node, d)
		if err != api.OK {
			t.Fatalf("error %d", err)
		}
		length := len(text)
		if next == number {
			length, text = turn(length, text)
		}
		next++
		b := append([]byte{1, byte(length >> 16), byte(length >> 8), byte(length)}, text...)
		for _, below := range p.Parts {
			b = append(b, bytesBelow(below)...)
		}
		return b
	}
	return bytesBelow(p)
}

// P15.1: a node's text whose count isn't that of its bytes, or that has bytes behind the node's, or ahead of them, or isn't a node's, wherever it stands: the bytes are none's.
func TestBytesOfWrongTexts(t *testing.T) {
	for _, d := range []int{1, 2, 8} {
		for i, p := range good(d) {
			for number := range countOf(p) {
				wrong := func(turn func(length int, text []byte) (int, []byte)) {
					t.Helper()
					undecoded(t, joined(t, p, d, number, turn), d, i, d, number)
				}
				for _, length := range []int{0, 1, 12, 1 << 8, 1 << 16, 1<<20 - 1, 1 << 20, 1<<20 + 1, 1<<24 - 1} {
					wrong(func(was int, text []byte) (int, []byte) {
						if length == was {
							return length + 1, text
						}
						return length, text
					})
				}
				for by := 1; by < 10; by++ {
					wrong(func(length int, text []byte) (int, []byte) { return length - by, text })
					wrong(func(length int, text []byte) (int, []byte) { return length + by, text })
					wrong(func(length int, text []byte) (int, []byte) { return length - by, text[:len(text)-by] })
					wrong(func(length int, text []byte) (int, []byte) { return length + by, append(text, make([]byte, by)...) })
					wrong(func(length int, text []byte) (int, []byte) { return length + by, append(make([]byte, by), text...) })
					wrong(func(length int, text []byte) (int, []byte) {
						return length + 1<<16, append(text, make([]byte, 1<<16)...)
					})
				}
				wrong(func(int, []byte) (int, []byte) { return 0, nil })
				wrong(func(length int, text []byte) (int, []byte) { return 2 * length, append(text, text...) })
				wrong(func(length int, text []byte) (int, []byte) { return length, append([]byte{4}, text[1:]...) })
			}
		}
	}
}

// P15.1: a text's length stands in three bytes, the highest first, and in no other form.
func TestBytesOfWrongLengths(t *testing.T) {
	text := slices.Concat([]byte{2, 1, 1, 1}, seven, []byte{0})
	for i, length := range [][]byte{{}, {13}, {0, 13}, {0, 0, 0, 13}, {13, 0, 0}, {0, 13, 0}, {141, 0, 0}, {128, 0, 13}, {0, 0, 13, 0}, {0, 0, 0, 0, 0, 0, 0, 13}, {128, 0, 0, 0, 0, 0, 0, 13}} {
		undecoded(t, slices.Concat([]byte{1}, length, text), 1, i)
		undecoded(t, slices.Concat([]byte{1}, length, text, make([]byte, 13<<8)), 1, i)
	}
}

// P15.1: the bytes of parts with an open one where the kid is the empty tree, with too few Parts, or too many, are none's.
func TestBytesOfWrongParts(t *testing.T) {
	for _, d := range []int{1, 2, 8} {
		one := shut(leaf(row(d, 1)))
		for i, k := range []api.Kid{{}, kid(d, 1), kid(d, 3)} {
			for j, p := range []api.Part{
				opened(fork(live(row(d, 1)), api.Kid{}, k), one, api.Part{}),
				opened(fork(dead(row(d, 1)), k, api.Kid{}), api.Part{}, one),
				opened(fork(dead(row(d, 1)), k, api.Kid{}), api.Part{}, shut(fork(live(row(d, 2)), api.Kid{}, api.Kid{}))),
			} {
				undecoded(t, bytesOf(t, p, d), d, i, j, d)
				undecoded(t, bytesOf(t, over(d, 4, api.Part{}, over(d, 5, one, p, one)), d), d, i, j, d)
			}
		}
		for i, p := range good(d) {
			for at, was := range open(&p) {
				for _, below := range []api.Part{{}, one} {
					undecoded(t, bytesOf(t, turned(p, at, func(p *api.Part) { p.Parts = append(p.Parts, below) }), d), d, i, at, d)
				}
				if len(was.Parts) > 0 {
					undecoded(t, bytesOf(t, turned(p, at, func(p *api.Part) { p.Parts = p.Parts[1:] }), d), d, i, at, d)
				}
			}
		}
	}
}

// P15.1: the bytes of 4096 open ones are a part's, those of more are none's, whether they are wide or deep.
func TestBytesMany(t *testing.T) {
	for _, count := range []int{4095, 4096, 4097, 5000} {
		for i, p := range []api.Part{sized(1, count, 2), sized(1, count, 4), bushy(1, count, 64)} {
			judgedMayBe(t, p, 1, count <= 4096, i, count)
		}
	}
}

// P15.1: the bytes of a part 64 deep are a part's, those of a deeper one none's, wherever its longest way goes.
func TestBytesDeep(t *testing.T) {
	for _, deep := range []int{63, 64, 65, 66, 1000} {
		for fan := 2; fan <= 4; fan++ {
			for at := range fan {
				judgedMayBe(t, chain(1, deep, fan, at), 1, deep <= 64, deep, fan, at)
			}
		}
	}
}

// judgedMayBe holds against the bytes of a part, which may have too much, or be too deep, what Decode must tell of them.
func judgedMayBe(t *testing.T, p api.Part, d int, right bool, what ...any) {
	t.Helper()
	if judged(t, bytesOf(t, p, d), d, what...) != right {
		t.Errorf("whether it may be is another thing than was meant: %v", what)
	}
}

// P15.1: nesting that never ends: open ones one below the other, as deep as the bytes go, and then nothing, or all that is missing.
func TestBytesEndless(t *testing.T) {
	for i, n := range []api.Node{fork(live(row(1, 1)), kid(1, 1), kid(1, 2)), inner(keyed(1, 1), keyed(1, 2)), inner(keyed(1, 1), keyed(1, 2), keyed(1, 4), keyed(1, 5))} {
		text, err := node.Encode(n, 1)
		if err != api.OK {
			t.Fatalf("error %d", err)
		}
		level := framed(text)
		for _, ahead := range [][]byte{nil, {0}} {
			unit := slices.Concat(level, ahead)
			for _, deep := range []int{1, 2, 63, 64, 65, 66, 4096, 4097, 20000} {
				b := bytes.Repeat(unit, deep)
				undecoded(t, b, 1, i, deep)
				if deep > 64 {
					undecoded(t, append(b, make([]byte, 3*deep+1)...), 1, i, deep)
				}
			}
		}
	}
}

// P15.1: bytes that are nobody's: none, a truth that is neither 1 nor 0, a 1 of which nothing comes, many bytes.
func TestBytesOfNobody(t *testing.T) {
	for first := 2; first < 256; first++ {
		for _, d := range dims {
			undecoded(t, []byte{byte(first)}, d, first, d)
		}
		for i, p := range good(2) {
			b := bytesOf(t, p, 2)
			b[0] = byte(first)
			undecoded(t, b, 2, first, i)
		}
	}
	for i, b := range [][]byte{nil, {}, {1}, {1, 0}, {1, 0, 0}, {1, 0, 0, 0}, {0, 0}, {0, 1}, {1, 1}, {1, 0, 0, 1}, {1, 0, 0, 1, 0}, {1, 0, 0, 1, 2}, {1, 0, 0, 3, 2, 0, 0}, {1, 0, 0, 3, 3, 0, 0}, {1, 0, 0, 3, 0, 0, 0}, {1, 0, 0, 1, 1, 0, 0},
		bytes.Repeat([]byte{1}, 1000), bytes.Repeat([]byte{255}, 1000), bytes.Repeat([]byte{1, 0, 0, 0}, 1000), make([]byte, 1<<20), bytes.Repeat([]byte{1}, 1<<21), append([]byte{1, 16, 0, 0}, make([]byte, 1<<21)...)} {
		for _, d := range dims {
			undecoded(t, b, d, i, d)
		}
	}
}

// P15.1, P15.5: bytes of chance, made of a part's by some turns, against the chapter's words.
func TestBytesByChance(t *testing.T) {
	random := rand.New(rand.NewSource(2))
	taken := 0
	const rounds = 30000
	for range rounds {
		d := 1 + random.Intn(3)
		b := bytesOf(t, anyPart(random, d, 1+random.Intn(6)), d)
		for range random.Intn(3) {
			at := random.Intn(len(b))
			switch random.Intn(5) {
			case 0:
				b[at] = byte(random.Intn(3))
			case 1:
				b[at] ^= 1 << random.Intn(8)
			case 2:
				b = slices.Delete(b, at, min(len(b), at+1+random.Intn(9)))
			case 3:
				b = slices.Insert(b, at, make([]byte, 1+random.Intn(9))...)
			case 4:
				b = slices.Insert(b, at, bytesOf(t, anyPart(random, d, 2), d)...)
			}
			if len(b) == 0 {
				break
			}
		}
		if judged(t, b, d, b) {
			taken++
		}
	}
	if taken < rounds/4 || taken > rounds*3/4 {
		t.Errorf("%d of %d are a part's", taken, rounds)
	}
}
