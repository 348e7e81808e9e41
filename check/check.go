// Package check finds the first of several errors. All chapters use it.
package check

import (
	"slices"

	"cassegrain/api"
	"cassegrain/number"
)

// First makes the checks in their order and returns the first error. A check is a closure because it may rely on all those before it.
func First(checks ...func() api.Errno) api.Errno {
	for _, check := range checks {
		if e := check(); e != api.OK {
			return e
		}
	}
	return api.OK
}

// Require returns a check that fails with e unless the condition holds.
func Require(e api.Errno, condition func() bool) func() api.Errno {
	return func() api.Errno {
		if condition() {
			return api.OK
		}
		return e
	}
}

// Indexed checks all items, in their order, and returns the index of the first one with an error, and this error. Without an error the index is 0.
func Indexed[T any](items []T, check func(i int, item T) api.Errno) (int, api.Errno) {
	for i, item := range items {
		if e := check(i, item); e != api.OK {
			return i, e
		}
	}
	return 0, api.OK
}

// Each returns a check of all items, in their order.
func Each[T any](items []T, check func(T) api.Errno) func() api.Errno {
	return func() api.Errno {
		_, e := Indexed(items, func(_ int, item T) api.Errno { return check(item) })
		return e
	}
}

// AtMost returns a check that there are no more items than the limit, and then of all items, in their order.
func AtMost[T any](limit int, items []T, check func(T) api.Errno) func() api.Errno {
	return func() api.Errno {
		return First(
			Require(api.ErrLarge, func() bool { return len(items) <= limit }),
			Each(items, check),
		)
	}
}

// Exists says whether a slice has an item with this index.
func Exists[T any](l []T, i int) bool {
	return number.Within(i, 0, len(l)-1)
}

// Range returns the check that a number is from lo to hi.
func Range(n, lo, hi int) func() api.Errno {
	return Require(api.ErrRange, func() bool { return number.Within(n, lo, hi) })
}

// Ends returns the check that both ends of a range are from lo to hi.
func Ends(r api.Range, lo, hi int) func() api.Errno {
	return func() api.Errno { return First(Range(r.Lo, lo, hi), Range(r.Hi, lo, hi)) }
}

// Ordered returns the check that the ends of a range are in order.
func Ordered(r api.Range) func() api.Errno {
	return Require(api.ErrOrder, func() bool { return r.Lo <= r.Hi })
}

// Numbers returns what checks that a number is from lo to hi.
func Numbers(lo, hi int) func(int) api.Errno {
	return func(n int) api.Errno { return Range(n, lo, hi)() }
}

// Parts returns what checks that no part of a whole complex number is greater in size than the limit.
func Parts(limit int) func(api.Gauss) api.Errno {
	return func(g api.Gauss) api.Errno {
		return First(Range(g.Re, -limit, limit), Range(g.Im, -limit, limit))
	}
}

// Name returns the check that a string is a name.
func Name(s string) func() api.Errno {
	return Require(api.ErrName, func() bool { return isName(s) })
}

// NewName returns the check that a string is a name, and that none of the earlier items has it.
func NewName[T any](name string, earlier []T, nameOf func(T) string) func() api.Errno {
	return func() api.Errno {
		return First(
			Name(name),
			Require(api.ErrExists, func() bool {
				return !slices.ContainsFunc(earlier, func(item T) bool { return nameOf(item) == name })
			}),
		)
	}
}

// isName says whether a string is a name: a letter, and then letters, digits and "-".
func isName(s string) bool {
	if !number.Within(len(s), 1, api.MaxName) || !isLetter(s[0]) {
		return false
	}
	for i := range len(s) {
		if c := s[i]; !isLetter(c) && !isDigit(c) && c != '-' {
			return false
		}
	}
	return true
}

func isLetter(c byte) bool {
	return 'a' <= c && c <= 'z' || 'A' <= c && c <= 'Z'
}

func isDigit(c byte) bool {
	return '0' <= c && c <= '9'
}
