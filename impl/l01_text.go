package impl

import (
	"strconv"
	"strings"
)

const (
	MaxInputLen      = 20000
	MaxUint          = 1000000000
	MaxLineLen       = 600
	MaxFieldsPerLine = 40
)

const hexDigits = "0123456789abcdef"

// EncodeHex returns the lowercase hexadecimal encoding of s, two digits per byte with the high
// half first, and true. It returns "" and false if s is longer than MaxInputLen bytes. Example:
// EncodeHex("az") returns "617a" and true.
func EncodeHex(s string) (string, bool) {
	if len(s) > MaxInputLen {
		return "", false
	}
	text := make([]byte, 0, 2*len(s))
	for i := 0; i < len(s); i++ {
		text = append(text, hexDigits[s[i]>>4], hexDigits[s[i]&15])
	}
	return string(text), true
}

// DecodeHex returns the string t for which EncodeHex(t) is s, and true. It returns "" and false
// if there is no such string (an odd length, a character other than 0-9 and a-f, or a result
// longer than MaxInputLen).
func DecodeHex(s string) (string, bool) {
	if len(s)%2 != 0 || len(s) > 2*MaxInputLen {
		return "", false
	}
	decoded := make([]byte, 0, len(s)/2)
	for i := 0; i < len(s); i += 2 {
		high := strings.IndexByte(hexDigits, s[i])
		low := strings.IndexByte(hexDigits, s[i+1])
		if high < 0 || low < 0 {
			return "", false
		}
		decoded = append(decoded, byte(high<<4|low))
	}
	return string(decoded), true
}

// FormatInt returns n in decimal without leading zeros, with a leading `-` for a negative number.
// It is defined for every int; FormatInt(0) is "0".
func FormatInt(n int) string {
	return strconv.Itoa(n)
}

// ParseUint returns the number n in the range 0 to MaxUint for which FormatInt(n) is s, and true.
// It returns 0 and false if there is none. Example: ParseUint("01") returns 0 and false.
func ParseUint(s string) (int, bool) {
	n, err := strconv.Atoi(s)
	// Atoi also reads "+1", "-0" and "01", which FormatInt never writes.
	if err != nil || n < 0 || n > MaxUint || FormatInt(n) != s {
		return 0, false
	}
	return n, true
}

// SplitFields returns the fields of a line in order, and true. Fields are maximal runs of bytes
// other than the space (byte 32); leading and trailing spaces are ignored. SplitFields returns
// nil and false if the line is longer than MaxLineLen bytes, contains a byte outside the range 32
// to 126, or has more than MaxFieldsPerLine fields. An empty line and a line of spaces have no
// fields.
func SplitFields(line string) ([]string, bool) {
	if len(line) > MaxLineLen {
		return nil, false
	}
	var fields []string
	start, end := 0, 0
scan:
	for ; end < len(line); end++ {
		switch b := line[end]; {
		case b < ' ' || b > '~':
			break scan
		case b == ' ':
			fields = appendField(fields, line[start:end])
			start = end + 1
		}
	}
	if end < len(line) {
		return nil, false
	}
	fields = appendField(fields, line[start:])
	if len(fields) > MaxFieldsPerLine {
		return nil, false
	}
	return fields, true
}

// appendField copies the field, since a result shares no memory with an argument. An empty run
// between two spaces is no field.
func appendField(fields []string, field string) []string {
	if field == "" {
		return fields
	}
	return append(fields, strings.Clone(field))
}

// Clamp returns n clamped to the range low to high. If high is less than low, it returns low.
func Clamp(n int, low int, high int) int {
	// The lower bound is applied last, so that it wins if the bounds are crossed.
	return max(low, min(n, high))
}
