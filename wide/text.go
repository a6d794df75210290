package wide

import "twinspan/api"

const (
	partSize = 8            // the bytes of a part
	size     = 4 * partSize // the bytes of a number
	base     = 10           // of its text
	digits   = 78           // the text of the greatest number has so many
)

// Bytes is the 32 bytes of a, the greatest first.
func Bytes(a api.Wide) string {
	var s [size]byte
	for i := range size {
		s[size-1-i] = byte(a[i/partSize] >> (i % partSize * 8))
	}
	return string(s[:])
}

// FromBytes is the number whose bytes s is.
func FromBytes(s string) (api.Wide, api.Errno) {
	var a api.Wide
	if len(s) != size {
		return a, api.ErrForm
	}
	for i := range size {
		a[i/partSize] |= uint64(s[size-1-i]) << (i % partSize * 8)
	}
	return a, api.OK
}

// Text is the digits of a in base ten.
func Text(a api.Wide) string {
	var s [digits]byte
	at := len(s)
	// 0 has a digit too, so one is written ahead of the question whether any is left.
	for more := true; more; more = !Zero(a) {
		var digit uint64
		a, digit = Part(a, base)
		at--
		s[at] = '0' + byte(digit)
	}
	return string(s[at:])
}

// FromText is the number whose text s is.
func FromText(s string) (api.Wide, api.Errno) {
	if s == "" || s[0] == '0' && s != "0" {
		return api.Wide{}, api.ErrForm
	}
	var a api.Wide
	for i := range len(s) {
		next, ok := behind(a, s[i])
		if !ok {
			return api.Wide{}, api.ErrForm
		}
		a = next
	}
	return a, api.OK
}

// behind is a with the digit c behind its own; 0 and false, if c is none, or that is no number.
func behind(a api.Wide, c byte) (api.Wide, bool) {
	if c < '0' || c > '9' {
		return api.Wide{}, false
	}
	tens, ok := Times(a, base)
	if !ok {
		return api.Wide{}, false
	}
	return Add(tens, Of(uint64(c-'0')))
}
