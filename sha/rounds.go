package sha

import (
	"math/bits"

	"indenture/api"
)

const (
	blockSize  = 64
	lengthSize = 8
	rounds     = 64
)

// firstWords are those of FIPS 180-4, 5.3.3: of the first 8 primes' square roots the first 32 bits behind the point.
func firstWords() [8]uint32 {
	return [8]uint32{
		0x6a09e667, 0xbb67ae85, 0x3c6ef372, 0xa54ff53a,
		0x510e527f, 0x9b05688c, 0x1f83d9ab, 0x5be0cd19,
	}
}

// roundWords are those of FIPS 180-4, 4.2.2: of the first 64 primes' cube roots the first 32 bits behind the point.
func roundWords() [rounds]uint32 {
	return [rounds]uint32{
		0x428a2f98, 0x71374491, 0xb5c0fbcf, 0xe9b5dba5, 0x3956c25b, 0x59f111f1, 0x923f82a4, 0xab1c5ed5,
		0xd807aa98, 0x12835b01, 0x243185be, 0x550c7dc3, 0x72be5d74, 0x80deb1fe, 0x9bdc06a7, 0xc19bf174,
		0xe49b69c1, 0xefbe4786, 0x0fc19dc6, 0x240ca1cc, 0x2de92c6f, 0x4a7484aa, 0x5cb0a9dc, 0x76f988da,
		0x983e5152, 0xa831c66d, 0xb00327c8, 0xbf597fc7, 0xc6e00bf3, 0xd5a79147, 0x06ca6351, 0x14292967,
		0x27b70a85, 0x2e1b2138, 0x4d2c6dfc, 0x53380d13, 0x650a7354, 0x766a0abb, 0x81c2c92e, 0x92722c85,
		0xa2bfe8a1, 0xa81a664b, 0xc24b8b70, 0xc76c51a3, 0xd192e819, 0xd6990624, 0xf40e3585, 0x106aa070,
		0x19a4c116, 0x1e376c08, 0x2748774c, 0x34b0bcb5, 0x391c0cb3, 0x4ed8aa4a, 0x5b9cca4f, 0x682e6ff3,
		0x748f82ee, 0x78a5636f, 0x84c87814, 0x8cc70208, 0x90befffa, 0xa4506ceb, 0xbef9a3f7, 0xc67178f2,
	}
}

// turnAll turns the words by block after block of b, which has full ones only.
func turnAll(words [8]uint32, b []byte) [8]uint32 {
	k := roundWords()
	for len(b) > 0 {
		w := schedule(b[:blockSize])
		words = turn(words, &w, &k)
		b = b[blockSize:]
	}
	return words
}

// schedule makes a block's 16 words and the 48 that follow from them.
func schedule(block []byte) [rounds]uint32 {
	var w [rounds]uint32
	for i := range 16 {
		b := block[4*i : 4*i+4]
		w[i] = uint32(b[0])<<24 | uint32(b[1])<<16 | uint32(b[2])<<8 | uint32(b[3])
	}
	for i := 16; i < rounds; i++ {
		x, y := w[i-15], w[i-2]
		s0 := bits.RotateLeft32(x, -7) ^ bits.RotateLeft32(x, -18) ^ x>>3
		s1 := bits.RotateLeft32(y, -17) ^ bits.RotateLeft32(y, -19) ^ y>>10
		w[i] = w[i-16] + s0 + w[i-7] + s1
	}
	return w
}

// turn turns the words by one block, whose words are w; k are the rounds' own. (Pointers spare two copies a block.)
func turn(v [8]uint32, w, k *[rounds]uint32) [8]uint32 {
	a, b, c, d, e, f, g, h := v[0], v[1], v[2], v[3], v[4], v[5], v[6], v[7]
	for i := range rounds {
		s1 := bits.RotateLeft32(e, -6) ^ bits.RotateLeft32(e, -11) ^ bits.RotateLeft32(e, -25)
		choice := e&f ^ ^e&g
		t1 := h + s1 + choice + k[i] + w[i]
		s0 := bits.RotateLeft32(a, -2) ^ bits.RotateLeft32(a, -13) ^ bits.RotateLeft32(a, -22)
		most := a&b ^ a&c ^ b&c
		t2 := s0 + most
		a, b, c, d, e, f, g, h = t1+t2, a, b, c, d+t1, e, f, g
	}
	return [8]uint32{v[0] + a, v[1] + b, v[2] + c, v[3] + d, v[4] + e, v[5] + f, v[6] + g, v[7] + h}
}

// filling is what a text of that many bytes is filled up by, to full blocks.
func filling(length uint64) []byte {
	zeros := (2*blockSize - 1 - lengthSize - length%blockSize) % blockSize
	out := make([]byte, 1+zeros, 1+zeros+lengthSize)
	out[0] = 128
	size := bigEnd(8 * length)
	return append(out, size[:]...)
}

// bigEnd writes n with its highest byte first.
func bigEnd(n uint64) [lengthSize]byte {
	var out [lengthSize]byte
	for i := range lengthSize {
		out[i] = byte(n >> (8 * (lengthSize - 1 - i)))
	}
	return out
}

func bytesOf(words [8]uint32) api.Digest {
	var d api.Digest
	for i, w := range words {
		d[4*i], d[4*i+1], d[4*i+2], d[4*i+3] = byte(w>>24), byte(w>>16), byte(w>>8), byte(w)
	}
	return d
}
