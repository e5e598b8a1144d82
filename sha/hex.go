package sha

import "indenture/api"

const hexDigits = "0123456789abcdef"

// Hex writes a digest as 64 digits to the base sixteen.
func Hex(d api.Digest) string {
	out := make([]byte, 0, 2*len(d))
	for _, b := range d {
		out = append(out, hexDigits[b>>4], hexDigits[b&15])
	}
	return string(out)
}

// FromHex reads what Hex writes, and nothing else: a digest has one text.
func FromHex(s string) (api.Digest, bool) {
	var d api.Digest
	if len(s) != 2*len(d) {
		return api.Digest{}, false
	}
	for i := range d {
		high, okHigh := hexValue(s[2*i])
		low, okLow := hexValue(s[2*i+1])
		if !okHigh || !okLow {
			return api.Digest{}, false
		}
		d[i] = high<<4 | low
	}
	return d, true
}

func hexValue(c byte) (byte, bool) {
	switch {
	case '0' <= c && c <= '9':
		return c - '0', true
	case 'a' <= c && c <= 'f':
		return c - 'a' + 10, true
	}
	return 0, false
}
