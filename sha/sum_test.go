package sha_test

import (
	"crypto/sha256"
	"encoding/hex"
	"strings"
	"testing"

	"indenture/api"
	"indenture/sha"
)

// edges are the lengths at which a text's filling, or its blocks, turn.
var edges = []int{0, 1, 54, 55, 56, 57, 62, 63, 64, 65, 118, 119, 120, 127, 128, 129, 183, 184, 192, 1000}

// text makes n bytes, no two neighbours of which are alike.
func text(n int) []byte {
	b := make([]byte, n)
	for i := range b {
		b[i] = byte(i*31 + i/256 + 7)
	}
	return b
}

// P1.1, and the chapter's examples.
func TestSumKnown(t *testing.T) {
	known := []struct{ text, sum string }{
		{"", "e3b0c44298fc1c149afbf4c8996fb92427ae41e4649b934ca495991b7852b855"},
		{"abc", "ba7816bf8f01cfea414140de5dae2223b00361a396177a9cb410ff61f20015ad"},
		{"abcdbcdecdefdefgefghfghighijhijkijkljklmklmnlmnomnopnopq", "248d6a61d20638b8e5c026930c3e6039a33ce45964ff2167f6ecedd419db06c1"},
		{"abcdefghbcdefghicdefghijdefghijkefghijklfghijklmghijklmnhijklmnoijklmnopjklmnopqklmnopqrlmnopqrsmnopqrstnopqrstu", "cf5b16a778af8380036ce59e7b0492370b249b11e8f07a51afac45037afee9d1"},
		{strings.Repeat("a", 1000000), "cdc76e5c9914fb9281a1c7e284d73e67f1809a48a497200e046d39ccc7112cd0"},
	}
	for _, k := range known {
		if got := sha.Hex(sha.Sum([]byte(k.text))); got != k.sum {
			t.Errorf("sum of %d bytes: %s, not %s", len(k.text), got, k.sum)
		}
	}
	if sha.Sum(nil) != sha.Sum([]byte{}) {
		t.Error("nil and no text have unlike sums")
	}
}

// P1.1
func TestSumEachLength(t *testing.T) {
	for n := range 400 {
		if got, want := sha.Sum(text(n)), sha256.Sum256(text(n)); got != want {
			t.Errorf("%d bytes: %x, not %x", n, got, want)
		}
	}
	for _, n := range append([]int{4095, 4096, 4097, 1 << 20}, edges...) {
		if got, want := sha.Sum(make([]byte, n)), sha256.Sum256(make([]byte, n)); got != want {
			t.Errorf("%d zeros: %x, not %x", n, got, want)
		}
	}
}

// P1.1: what is handed in stays as it is, its spare room too.
func TestSumLeavesItsText(t *testing.T) {
	for _, n := range edges {
		b := text(n + 200)
		sha.Sum(b[:n])
		if string(b) != string(text(n+200)) {
			t.Errorf("the text of %d bytes, or the room behind it, was changed", n)
		}
	}
}

// P1.1
func TestHex(t *testing.T) {
	if got := sha.Hex(api.Digest{}); got != strings.Repeat("0", 64) {
		t.Errorf("zeros: %s", got)
	}
	if got := sha.Hex(api.Digest{0: 0x01, 1: 0x23, 2: 0xab, 31: 0xf0}); got != "0123ab"+strings.Repeat("0", 56)+"f0" {
		t.Errorf("places: %s", got)
	}
	for _, d := range allBytes() {
		s := sha.Hex(d)
		if s != hex.EncodeToString(d[:]) {
			t.Errorf("%x: %s", d[:], s)
		}
		if back, ok := sha.FromHex(s); !ok || back != d {
			t.Errorf("%s: back as %x, %v", s, back[:], ok)
		}
	}
}

// allBytes are digests that have, together, each byte at each place.
func allBytes() []api.Digest {
	var out []api.Digest
	for b := range 256 {
		var d api.Digest
		for i := range d {
			d[i] = byte(b + 5*i)
		}
		out = append(out, d)
	}
	return out
}

// P1.1
func TestFromHexRefuses(t *testing.T) {
	good := "0123456789abcdef0123456789abcdef0123456789abcdef0123456789abcdef"
	if _, ok := sha.FromHex(good); !ok {
		t.Fatal("64 digits are refused")
	}
	wrong := []string{
		"", "0", "00", good[:62], good[:63], good + "0", good + "00", good + good, good + "g",
		strings.ToUpper(good), "0x" + good, "0x" + good[2:], " " + good[1:], good[:63] + "\n", good + "\n", strings.Repeat("é", 32),
	}
	for i := range good {
		for _, c := range []string{"/", ":", "`", "g", "@", "A", "F", "G", " ", "-", "+", "_", "\x00", "\x80", "\xb0", "\xe1", "\xff"} {
			wrong = append(wrong, good[:i]+c+good[i+1:])
		}
	}
	for _, w := range wrong {
		if d, ok := sha.FromHex(w); ok || d != (api.Digest{}) {
			t.Errorf("%q: %x, %v", w, d[:], ok)
		}
	}
}
