// Package number computes with whole numbers, and reads and writes them. All chapters use it.
package number

import (
	"strconv"
	"strings"
)

// Within says whether x is from lo to hi.
func Within(x, lo, hi int) bool {
	return lo <= x && x <= hi
}

// Size returns the absolute value of a number that is known to be small.
func Size(x int) int {
	return max(x, -x)
}

// Floor returns num / den rounded down; den is above 0.
func Floor(num, den int) int {
	n := num / den
	if n*den > num {
		n--
	}
	return n
}

// Ceiling returns num / den rounded up; den is above 0.
func Ceiling(num, den int) int {
	return -Floor(-num, den)
}

// Modulo returns the number from 0 to den - 1 that equals num modulo den; den is above 0.
func Modulo(num, den int) int {
	return num - den*Floor(num, den)
}

// ReadWhole reads a whole number with at most so many digits.
func ReadWhole(s string, digits int) (int, bool) {
	unsigned, negative := strings.CutPrefix(s, "-")
	n, ok := ReadNatural(unsigned, digits)
	if !negative {
		return n, ok
	}
	return -n, ok && n != 0 // "-0" is no number
}

// ReadNatural reads a number without a sign that has at most so many digits, few enough for an int.
func ReadNatural(s string, digits int) (int, bool) {
	if !Within(len(s), 1, digits) || len(s) > 1 && s[0] == '0' {
		return 0, false
	}
	n := 0
	for i := range len(s) {
		if !Within(int(s[i]), '0', '9') {
			return 0, false
		}
		n = 10*n + int(s[i]-'0')
	}
	return n, true
}

// Words describes strings of whole numbers that are separated by single blanks: how many there are, how many of them, from the first one on, have no sign, and how many digits a number has at most.
type Words struct{ Count, Unsigned, Digits int }

// Read reads the numbers of such a string.
func (w Words) Read(s string) ([]int, bool) {
	words := strings.SplitN(s, " ", w.Count+1)
	if len(words) != w.Count {
		return nil, false
	}
	numbers := make([]int, w.Count)
	for i, word := range words {
		read := ReadWhole
		if i < w.Unsigned {
			read = ReadNatural
		}
		n, ok := read(word, w.Digits)
		if !ok {
			return nil, false
		}
		numbers[i] = n
	}
	return numbers, true
}

// Join returns the string of numbers that are separated by single blanks.
func Join(numbers ...int) string {
	words := make([]string, len(numbers))
	for i, n := range numbers {
		words[i] = strconv.Itoa(n)
	}
	return strings.Join(words, " ")
}
