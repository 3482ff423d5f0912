package desk

import "strings"

// The digits that stand for bytes, and how many do for one.
const (
	hexDigits    = "0123456789abcdef"
	digitsOfByte = 2
	bitsOfDigit  = 4
)

// Hex tells bytes.
func Hex(b []byte) string {
	digits := make([]byte, 0, digitsOfByte*len(b))
	for _, x := range b {
		digits = append(digits, hexDigits[x>>bitsOfDigit], hexDigits[x&(1<<bitsOfDigit-1)])
	}
	return string(digits)
}

// Bytes reads them.
func Bytes(s string) ([]byte, bool) {
	if len(s)%digitsOfByte != 0 {
		return nil, false
	}
	var b []byte
	for i := 0; i < len(s); i += digitsOfByte {
		high, low := strings.IndexByte(hexDigits, s[i]), strings.IndexByte(hexDigits, s[i+1])
		if high < 0 || low < 0 {
			return nil, false
		}
		b = append(b, byte(high<<bitsOfDigit|low))
	}
	return b, true
}
