package page_test

import (
	"bytes"
	"testing"

	"indenture/page"
	"indenture/sha"
)

// P9.1: sums that were worked out elsewhere.
func TestKnownSums(t *testing.T) {
	for b, want := range map[string]string{
		"":     "1077a41b85e1d2f3ee0c1a3416273a608c22247aa9453ca5100c25536df53a0b",
		"\000": "ed31368533da1de26fe4264327f5a6fa70a013245e44fcad4cafc9f05dddc12a",
		"a":    "a6ce6d3a5c3d7c94b3ce12de2c140a24aa1a392e152542f729571b6dd5745493",
		"ab":   "488bb1e66f352da9774ee237bdd659dcdd9ba6e63993a675a99dbdc86dbcf825",
	} {
		if d := sha.Hex(page.Sum([]byte(b))); d != want {
			t.Errorf("%q: %s, not %s", b, d, want)
		}
	}
}

// P9.1: a preimage said by hand: the tag, the length in eight bytes, the text.
func TestPreimageByHand(t *testing.T) {
	for b, want := range map[string][]byte{
		"":   {80, 0, 0, 0, 0, 0, 0, 0, 0},
		"ab": {80, 0, 0, 0, 0, 0, 0, 0, 2, 97, 98},
	} {
		if got := page.Preimage([]byte(b)); !bytes.Equal(got, want) {
			t.Errorf("%q: % d, not % d", b, got, want)
		}
	}
	got := page.Preimage(text(258, 1))
	if !bytes.Equal(got[:9], []byte{80, 0, 0, 0, 0, 0, 0, 1, 2}) || !bytes.Equal(got[9:], text(258, 1)) {
		t.Errorf("% d", got)
	}
}

// P9.1: of texts of each length, of zeros, of tags, of other bytes: the preimage is that of the words, and the sum is its SHA-256, and the one that Put tells.
func TestSumsOfLengths(t *testing.T) {
	for _, n := range lengths {
		for _, b := range [][]byte{text(n, 1), text(n, 2), make([]byte, n), bytes.Repeat([]byte{80}, n), bytes.Repeat([]byte{255}, n)} {
			p, d := page.Preimage(b), page.Sum(b)
			if !bytes.Equal(p, preimage(b)) {
				t.Errorf("%d bytes: another preimage", n)
			}
			if d != sum(b) || d != sha.Sum(p) || d != page.New().Put(b) {
				t.Errorf("%d bytes: %x, not %x", n, d, sum(b))
			}
		}
	}
}

// P9.1: unlike texts have unlike preimages and sums, however alike they look: one the other's beginning, one the other's preimage.
func TestUnlikeTexts(t *testing.T) {
	texts := [][]byte{nil, {0}, {0, 0}, {80}, {1}, {80, 0, 0, 0, 0, 0, 0, 0, 0}, preimage([]byte{80}), {0, 1}, {1, 0}, text(64, 1), text(65, 1), text(66, 1)}
	for i, a := range texts {
		for k, b := range texts {
			same := i == k
			if bytes.Equal(page.Preimage(a), page.Preimage(b)) != same || (page.Sum(a) == page.Sum(b)) != same {
				t.Errorf("% d and % d", a, b)
			}
		}
		if page.Sum(a) == sha.Sum(a) {
			t.Errorf("% d: the sum of the text alone", a)
		}
	}
}

// P9.1: nil is the text of no byte.
func TestSumOfNil(t *testing.T) {
	if page.Sum(nil) != page.Sum([]byte{}) || !bytes.Equal(page.Preimage(nil), page.Preimage([]byte{})) {
		t.Error("nil and empty are unlike")
	}
}

// The rule of memory: Sum and Preimage leave the text and its spare room as they were; a preimage may be written over.
func TestSumLeavesText(t *testing.T) {
	for _, n := range lengths {
		whole := text(n+80, 1)
		was := bytes.Clone(whole)
		d, p := page.Sum(whole[:n]), page.Preimage(whole[:n])
		other := page.Preimage(whole[:n])
		spoil(p)
		if !bytes.Equal(whole, was) || !bytes.Equal(other, preimage(was[:n])) {
			t.Errorf("%d bytes: they turned", n)
		}
		spoil(whole)
		if d != sum(was[:n]) || !bytes.Equal(other, preimage(was[:n])) {
			t.Errorf("%d bytes: what was told turned", n)
		}
	}
}
