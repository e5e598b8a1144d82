package sha_test

import (
	"crypto/sha256"
	"encoding/binary"
	"testing"

	"indenture/sha"
)

// lists are texts of many kinds, those among them too that look like other texts' lengths.
func lists() map[string][][]byte {
	length1 := []byte{0, 0, 0, 0, 0, 0, 0, 1}
	zero := make([]byte, 8)
	return map[string][][]byte{
		"none":             {},
		"one empty":        {{}},
		"two empty":        {{}, {}},
		"three empty":      {{}, {}, {}},
		"a":                {[]byte("a")},
		"a, empty":         {[]byte("a"), {}},
		"empty, a":         {{}, []byte("a")},
		"a, b":             {[]byte("a"), []byte("b")},
		"b, a":             {[]byte("b"), []byte("a")},
		"ab":               {[]byte("ab")},
		"ab, empty":        {[]byte("ab"), {}},
		"ab, c":            {[]byte("ab"), []byte("c")},
		"a, bc":            {[]byte("a"), []byte("bc")},
		"eight zeros":      {zero},
		"sixteen zeros":    {append(zero, zero...)},
		"zeros twice":      {zero, zero},
		"length":           {length1},
		"a, then a length": {append([]byte("a"), length1...)},
		"a length, then a": {append(length1[:8:8], 'a')},
		"all in one":       {append(append([]byte("a"), length1...), 'b')},
		"255":              {text(255)},
		"256":              {text(256)},
		"257":              {text(257)},
		"65536":            {text(65536), text(3)},
		"edges":            {text(55), text(56), text(63), text(64), text(65)},
	}
}

// P1.3: the chapter's example.
func TestPreimageKnown(t *testing.T) {
	known := map[string][]byte{
		"\x07\x00\x00\x00\x00\x00\x00\x00\x01a\x00\x00\x00\x00\x00\x00\x00\x00": sha.Preimage(7, [][]byte{[]byte("a"), nil}),
		"\x00":                                 sha.Preimage(0, nil),
		"\xff":                                 sha.Preimage(255, [][]byte{}),
		"\x01\x00\x00\x00\x00\x00\x00\x00\x00": sha.Preimage(1, [][]byte{{}}),
		"\x80\x00\x00\x00\x00\x00\x00\x00\x02\x00z": sha.Preimage(128, [][]byte{{0, 'z'}}),
	}
	for want, got := range known {
		if string(got) != want {
			t.Errorf("% x, not % x", got, want)
		}
	}
}

// P1.3
func TestPreimageAndHash(t *testing.T) {
	for name, texts := range lists() {
		for _, tag := range []byte{0, 1, 7, 127, 128, 255} {
			want := []byte{tag}
			for _, x := range texts {
				want = binary.BigEndian.AppendUint64(want, uint64(len(x)))
				want = append(want, x...)
			}
			if got := sha.Preimage(tag, texts); string(got) != string(want) {
				t.Errorf("%s: % x", name, got)
			}
			if got := sha.Hash(tag, texts); got != sha256.Sum256(want) {
				t.Errorf("%s: the sum is %x", name, got)
			}
		}
	}
}

// P1.3: an answer is new memory, and the texts stay as they are, their spare room too.
func TestPreimageIsNew(t *testing.T) {
	room := []byte("abcdef")
	texts := [][]byte{room[:1], room[2:3], room[:0], []byte("last")}[:3]
	p := sha.Preimage(9, texts)
	q := sha.Preimage(9, texts)
	want := string(p)
	h := sha.Hash(9, texts)
	clear(p[:cap(p)])
	if string(room) != "abcdef" || string(texts[:4][3]) != "last" || string(q) != want || h != sha256.Sum256(q) {
		t.Error("a preimage shares memory")
	}
	room[0] = 'x'
	if string(q) != want {
		t.Error("a preimage turns with its texts")
	}
	alone := sha.Preimage(9, nil)
	clear(alone)
	if string(sha.Preimage(9, nil)) != "\x09" {
		t.Error("a preimage of no texts shares memory")
	}
}

// P1.5: unlike tags, or unlike lists, have unlike preimages.
func TestPreimagesUnlike(t *testing.T) {
	seen := map[string]string{}
	for name, texts := range lists() {
		for tag := range 256 {
			p := string(sha.Preimage(byte(tag), texts))
			if was, ok := seen[p]; ok {
				t.Fatalf("%s and %s have one preimage", was, name)
			}
			seen[p] = name
		}
	}
	small := map[string]bool{}
	count := 0
	for _, texts := range smallLists(3) {
		small[string(sha.Preimage(1, texts))] = true
		count++
	}
	if len(small) != count {
		t.Errorf("%d lists have %d preimages", count, len(small))
	}
}

// smallLists are all lists of at most so many texts, of at most two bytes that are 0 or 1.
func smallLists(most int) [][][]byte {
	words := [][]byte{{}, {0}, {1}, {0, 0}, {0, 1}, {1, 0}, {1, 1}}
	out := [][][]byte{{}}
	from := 0
	for range most {
		end := len(out)
		for _, l := range out[from:end] {
			for _, w := range words {
				out = append(out, append(l[:len(l):len(l)], w))
			}
		}
		from = end
	}
	return out
}

// P1.4: like texts don't clash, and of unlike ones none with one sum is known.
func TestClash(t *testing.T) {
	texts := [][]byte{nil, {}, {0}, {0, 0}, []byte("a"), []byte("b"), []byte("ab"), text(64), text(65), text(1000), sha.Preimage(1, nil)}
	for i, a := range texts {
		for j, b := range texts {
			if sha.Clash(a, b) {
				t.Errorf("texts %d and %d clash", i, j)
			}
		}
		if sha.Clash(a, append([]byte(nil), a...)) {
			t.Errorf("text %d clashes with its copy", i)
		}
	}
	// A text and its own filling are one row of blocks; their lengths alone keep their sums apart.
	filled := append([]byte("abc"), 128)
	filled = append(filled, make([]byte, 52)...)
	filled = append(filled, 0, 0, 0, 0, 0, 0, 0, 24)
	if sha.Clash([]byte("abc"), filled) {
		t.Error("a text clashes with its filling")
	}
}
