package wire

import (
	"strings"

	"modillion/api"
)

// In is what is read.
type In struct {
	left  string
	wrong api.Errno
}

// NewIn reads bytes, from their beginning on.
func NewIn(s string) *In {
	return &In{left: s}
}

// read asks take how many bytes of what is left it takes, or what is wrong
// with them. Once something was wrong none is asked any more, so that what it
// would have set keeps its zero value.
func (i *In) read(take func(left string) (int, api.Errno)) {
	if i.wrong != api.OK {
		return
	}
	n, e := take(i.left)
	if e != api.OK {
		i.wrong = e
		return
	}
	i.left = i.left[n:]
}

// Num reads a number.
func (i *In) Num() uint64 {
	var n uint64
	i.read(func(left string) (size int, e api.Errno) {
		n, size, e = number(left)
		return size, e
	})
	return n
}

// Int reads a number that may be below 0.
func (i *In) Int() int64 {
	return unfolded(i.Num()) // 0, if something was wrong: 0 is folded as 0
}

// Text reads bytes, at most so many.
func (i *In) Text(most int) string {
	var s string
	i.read(func(left string) (int, api.Errno) {
		length, head, e := number(left)
		if e != api.OK {
			return 0, e
		}
		if most < 0 || length > uint64(most) {
			return 0, api.ErrWireMost
		}
		if length > uint64(len(left)-head) {
			return 0, api.ErrWireShort
		}
		end := head + int(length)
		s = strings.Clone(left[head:end]) // an answer shares no memory with what was handed in
		return end, api.OK
	})
	return s
}

// Hash reads a sum.
func (i *In) Hash() api.Hash {
	var h api.Hash
	i.read(func(left string) (int, api.Errno) {
		if len(left) < len(h) {
			return 0, api.ErrWireShort
		}
		return copy(h[:], left), api.OK
	})
	return h
}

// Err is what was wrong.
func (i *In) Err() api.Errno {
	return i.wrong
}

// End is what was wrong, or that something is left. It only looks: what is
// left may still be read.
func (i *In) End() api.Errno {
	if i.wrong == api.OK && len(i.left) > 0 {
		return api.ErrWireMost
	}
	return i.wrong
}

// Left is how many bytes are left.
func (i *In) Left() int {
	return len(i.left)
}
