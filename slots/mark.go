package slots

import "twinspan/api"

// The numbers of a mark, in the order in which its sector has them.
const (
	epoch = iota
	size
	count
	many
)

// numbers are a mark's.
type numbers [many]int

// mostNumber is how great a number is at most that is read as a mark's.
const mostNumber = 1 << 40

// width is how many bytes a number has in a sector; again is where Epoch stands once more, at the sector's other end, so that a torn one is seen.
const (
	width = 8
	again = api.Size - width
)

// numbersOf are a mark's, as far as a sector can have them.
func numbersOf(m api.Mark) numbers {
	n := numbers{epoch: m.Epoch, size: m.Bytes, count: m.Count}
	for i, v := range n {
		n[i] = max(v, 0)
	}
	return n
}

// mark is the one with these numbers.
func (n numbers) mark() api.Mark {
	return api.Mark{Epoch: n[epoch], Bytes: n[size], Count: n[count]}
}

// put puts a number at the beginning of s.
func put(s []byte, n int) {
	for i := range width {
		s[i] = byte(n >> (8 * (width - 1 - i)))
	}
}

// take is the number at the beginning of s.
func take(s string) uint64 {
	n := uint64(0)
	for i := range width {
		n = n<<8 | uint64(s[i])
	}
	return n
}

// Pack is a mark's sector.
func Pack(m api.Mark) string {
	var s [api.Size]byte
	n := numbersOf(m)
	for i, v := range n {
		put(s[i*width:], v)
	}
	put(s[again:], n[epoch])
	return string(s[:])
}

// Unpack is the mark whose sector s is.
func Unpack(s string) (api.Mark, bool) {
	if len(s) != api.Size {
		return api.Mark{}, false
	}
	var n numbers
read:
	for i := range n {
		switch v := take(s[i*width:]); {
		case v > mostNumber:
			break read
		default:
			n[i] = int(v)
		}
	}
	// A number that was too great is left out: then, too, these have another sector.
	if m := n.mark(); Pack(m) == s {
		return m, true
	}
	return api.Mark{}, false
}

// Newest is the newest mark of two sectors.
func Newest(a, b string) api.Mark {
	// What Unpack tells of no mark's sector is the mark that is all 0.
	first, _ := Unpack(a)
	second, _ := Unpack(b)
	if second.Epoch > first.Epoch {
		return second
	}
	return first
}
