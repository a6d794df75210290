// Package tlv is layer 1: fields with their letters, as bytes. See shared/doc/01-tlv.md.
package tlv

// mostBody is how many bytes a body has at most: three bytes tell no greater length.
const mostBody = 1<<24 - 1

// mostNum is how many bytes a number has at most.
const mostNum = 8

// length is how long a body is, the greatest byte first.
type length [3]byte

// lengthOf is the length n, which is not above mostBody.
func lengthOf(n int) length {
	return length{byte(n >> 16), byte(n >> 8), byte(n)}
}

// number is the length as a number.
func (l length) number() int {
	n := 0
	for _, b := range l {
		n = n<<8 | int(b)
	}
	return n
}

// Num is the field of a number.
func Num(letter byte, n uint64) string {
	var b [mostNum]byte
	at := len(b)
	for ; n > 0; n >>= 8 {
		at--
		b[at] = byte(n)
	}
	return Text(letter, string(b[at:]))
}

// Int is the field of a number that has a sign; below 0 it is that of 0.
func Int(letter byte, n int) string {
	return Num(letter, uint64(max(n, 0)))
}

// Text is the field of a text, as far as a body reaches.
func Text(letter byte, s string) string {
	s = s[:min(len(s), mostBody)]
	l := lengthOf(len(s))
	return string([]byte{letter}) + string(l[:]) + s
}

// All is the field of the fields of texts.
func All(letter byte, l ...string) string {
	var body []byte
	for _, s := range l {
		// What stands behind a full body is cut off anyway: to build it first could cost without bound.
		if len(body) >= mostBody {
			break
		}
		body = append(body, Text(letter, s)...)
	}
	return Text(letter, string(body))
}
