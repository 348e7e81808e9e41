package symbol

import (
	"strings"

	"cassegrain/api"
	"cassegrain/number"
)

// FormatBits returns the string of bits.
func FormatBits(l []int) string {
	characters := make([]byte, len(l))
	for i, bit := range l {
		characters[i] = '?'
		if bit == 0 || bit == 1 {
			characters[i] = '0' + byte(bit)
		}
	}
	return string(characters)
}

// ParseBits returns the bits with this string.
func ParseBits(s string) ([]int, api.Errno) {
	if len(s) > api.MaxSymbolCount {
		return nil, api.ErrLarge
	}
	l := make([]int, len(s))
	for i := range len(s) {
		if s[i] != '0' && s[i] != '1' {
			return nil, api.ErrSyntax
		}
		l[i] = int(s[i] - '0')
	}
	return l, api.OK
}

// FormatSoft returns the string of numbers, whatever they are.
func FormatSoft(l []int) string {
	return number.Join(l...)
}

// ParseSoft returns the soft symbols with this string.
func ParseSoft(s string) ([]int, api.Errno) {
	if s == "" {
		return nil, api.OK
	}
	soft, ok := number.Words{Count: strings.Count(s, " ") + 1, Digits: 1}.Read(s)
	if !ok {
		return nil, api.ErrSyntax
	}
	if e := softCheck(soft)(); e != api.OK {
		return nil, e
	}
	return soft, api.OK
}
