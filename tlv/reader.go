package tlv

import "twinspan/api"

// Reader reads fields, one behind the other. A zero one is at the end of nothing.
type Reader struct {
	rest string
	bad  bool
}

// Read is a reader at the beginning of s.
func Read(s string) *Reader {
	return &Reader{rest: s}
}

// cut is the body of the field ahead in s, if it is of that letter, and what stands behind it.
func cut(letter byte, s string) (body, rest string, ok bool) {
	var l length
	head := 1 + len(l)
	if len(s) < head || s[0] != letter {
		return "", "", false
	}
	copy(l[:], s[1:head])
	s = s[head:]
	n := l.number()
	if n > len(s) {
		return "", "", false
	}
	return s[:n], s[n:], true
}

// number is the number that a body is. A 0 ahead makes it none, or a number would have several fields.
func number(body string) (uint64, bool) {
	if len(body) > mostNum || len(body) > 0 && body[0] == 0 {
		return 0, false
	}
	n := uint64(0)
	for i := range len(body) {
		n = n<<8 | uint64(body[i])
	}
	return n, true
}

// take goes on behind the field of that letter that stands next, if read says of its body that it is right; else the reader is bad.
func (r *Reader) take(letter byte, read func(body string) bool) bool {
	if r == nil {
		return false
	}
	body, rest, ok := cut(letter, r.rest)
	if !ok || !read(body) {
		// Without its text a bad reader has nothing that stands next, and nothing left.
		*r = Reader{bad: true}
		return false
	}
	r.rest = rest
	return true
}

// Num is the number that stands next.
func (r *Reader) Num(letter byte) uint64 {
	var n uint64
	r.take(letter, func(body string) (ok bool) {
		n, ok = number(body)
		return ok
	})
	return n
}

// Int is the number that stands next, of at most most.
func (r *Reader) Int(letter byte, most int) int {
	told := 0
	r.take(letter, func(body string) bool {
		n, ok := number(body)
		if !ok || most < 0 || n > uint64(most) {
			return false
		}
		told = int(n)
		return true
	})
	return told
}

// Text is the text that stands next, of at most most bytes.
func (r *Reader) Text(letter byte, most int) string {
	told := ""
	r.take(letter, func(body string) bool {
		if len(body) > most {
			return false
		}
		told = body
		return true
	})
	return told
}

// All are the texts in the field that stands next: at most many, of at most most bytes each.
func (r *Reader) All(letter byte, many, most int) []string {
	var told []string
	right := r.take(letter, func(body string) bool {
		inner := Read(body)
	fields:
		for {
			switch _, more := inner.Next(); {
			case !more, len(told) > many: // one above many is enough to know
				break fields
			default:
				told = append(told, inner.Text(letter, most))
			}
		}
		return inner.Good() && len(told) <= many
	})
	if !right {
		return nil
	}
	return told
}

// Next is the letter of the field that stands next, and whether there is one.
func (r *Reader) Next() (byte, bool) {
	if r.Left() == 0 {
		return 0, false
	}
	return r.rest[0], true
}

// Left is how many bytes are left.
func (r *Reader) Left() int {
	if r == nil {
		return 0
	}
	return len(r.rest)
}

// Good tells whether all that was read stood there.
func (r *Reader) Good() bool {
	return r != nil && !r.bad
}

// End tells whether all of it was read, and all was good.
func (r *Reader) End() api.Errno {
	if !r.Good() || r.Left() > 0 {
		return api.ErrForm
	}
	return api.OK
}
