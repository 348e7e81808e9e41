package code

import (
	"strings"

	"cassegrain/api"
	"cassegrain/number"
)

// characters are those of the elements.
const characters = "0123456789abcdef"

// FormatWord returns the string of elements, with "?" for other numbers.
func FormatWord(l []int) string {
	s := make([]byte, len(l))
	for i, n := range l {
		s[i] = '?'
		if number.Within(n, 0, api.CodeField-1) {
			s[i] = characters[n]
		}
	}
	return string(s)
}

// ParseWord returns the elements with this string.
func ParseWord(s string) ([]int, api.Errno) {
	if len(s) > api.MaxCodeList {
		return nil, api.ErrLarge
	}
	l := make([]int, len(s))
	for i := range len(s) {
		l[i] = strings.IndexByte(characters, s[i])
		if l[i] < 0 {
			return nil, api.ErrSyntax
		}
	}
	return l, api.OK
}
