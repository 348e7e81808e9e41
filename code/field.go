package code

import (
	"cassegrain/api"
	"cassegrain/check"
)

// reduction is the polynomial x^4 + x + 1, modulo which elements are multiplied.
const reduction = 0b10011

// elementA is the element A, whose powers are all elements but 0.
const elementA = 2

// product returns the product of two elements.
func product(a, b int) int {
	n := 0
	for bit := api.CodeField / 2; bit > 0; bit /= 2 {
		n *= 2
		if n >= api.CodeField {
			n ^= reduction
		}
		if b&bit != 0 {
			n ^= a
		}
	}
	return n
}

// power returns an element to a power that is not negative.
func power(a, exponent int) int {
	n := 1
	for range exponent {
		n = product(n, a)
	}
	return n
}

// inverse returns the inverse of an element other than 0, whose power with the exponent 15 is 1.
func inverse(a int) int {
	return power(a, api.CodeField-2)
}

// Product returns the product of two elements.
func Product(a, b int) (int, api.Errno) {
	if e := elementsCheck([]int{a, b})(); e != api.OK {
		return 0, e
	}
	return product(a, b), api.OK
}

// halfCheck is the check of a half.
func halfCheck(half int) func() api.Errno {
	return check.Range(half, 1, api.MaxCodeHalf)
}
