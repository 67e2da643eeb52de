package hash

const (
	sumSize  = 32
	textSize = 2 * sumSize
	digits   = "0123456789abcdef"
)

// text is a sum's text while its digits are put, one behind another.
type text struct {
	bytes [textSize]byte
	count int
}

func (t *text) digit(n byte) {
	t.bytes[t.count] = digits[n]
	t.count++
}

// value is what a digit stands for; false, if the byte is no digit. Capital
// letters are none, so that each sum has one text alone.
func value(c byte) (byte, bool) {
	switch {
	case '0' <= c && c <= '9':
		return c - '0', true
	case 'a' <= c && c <= 'f':
		return c - 'a' + 10, true
	}
	return 0, false
}
