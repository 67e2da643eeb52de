package wire

import "modillion/api"

// Out is what is written.
type Out struct {
	bytes []byte
}

// NewOut is nothing written yet.
func NewOut() *Out {
	return &Out{}
}

// Num writes a number.
func (o *Out) Num(n uint64) {
	for n > 127 {
		o.bytes = append(o.bytes, byte(n)|128)
		n >>= 7
	}
	o.bytes = append(o.bytes, byte(n))
}

// Int writes a number that may be below 0.
func (o *Out) Int(n int64) {
	o.Num(folded(n))
}

// Text writes bytes.
func (o *Out) Text(s string) {
	o.Num(uint64(len(s)))
	o.bytes = append(o.bytes, s...)
}

// Hash writes a sum.
func (o *Out) Hash(h api.Hash) {
	o.bytes = append(o.bytes, h[:]...)
}

// Done is all that was written.
func (o *Out) Done() string {
	return string(o.bytes)
}
