package script

import (
	"strconv"
	"strings"
)

// unescape returns the text that a last word stands for.
func unescape(s string) (string, bool) {
	var b strings.Builder
	for i := 0; i < len(s); i++ {
		if s[i] != '\\' {
			b.WriteByte(s[i])
			continue
		}
		i++
		if i == len(s) {
			return "", false
		}
		switch s[i] {
		case 'n':
			b.WriteByte('\n')
		case 't':
			b.WriteByte('\t')
		case '\\':
			b.WriteByte('\\')
		default:
			return "", false
		}
	}
	return b.String(), true
}

// number reads a decimal number of 1 to 9 digits without leading zeros.
func number(s string) (int, bool) {
	if len(s) == 0 || len(s) > 9 || s[0] == '0' && s != "0" {
		return 0, false
	}
	for i := range len(s) {
		if s[i] < '0' || s[i] > '9' {
			return 0, false
		}
	}
	n, err := strconv.Atoi(s)
	return n, err == nil
}

// unhex reads pairs of hexadecimal digits, or `-` for no bytes.
func unhex(s string) ([]byte, bool) {
	if s == "-" {
		return nil, true
	}
	if len(s) == 0 || len(s)%2 != 0 {
		return nil, false
	}
	var b []byte
	for i := 0; i < len(s); i += 2 {
		high, ok1 := digit(s[i])
		low, ok2 := digit(s[i+1])
		if !ok1 || !ok2 {
			return nil, false
		}
		b = append(b, high<<4|low)
	}
	return b, true
}

// digit returns the value of a hexadecimal digit.
func digit(c byte) (byte, bool) {
	switch {
	case '0' <= c && c <= '9':
		return c - '0', true
	case 'a' <= c && c <= 'f':
		return c - 'a' + 10, true
	}
	return 0, false
}
