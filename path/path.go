// Package path is chapter 1: paths of probes with enclosures. See shared/doc/01-path.md.
package path

import (
	"sort"

	"cassegrain/api"
)

// firstError makes the checks in their order and returns the first error. A check is a closure because it may rely on all those before it.
func firstError(checks ...func() api.Errno) api.Errno {
	for _, check := range checks {
		if e := check(); e != api.OK {
			return e
		}
	}
	return api.OK
}

// require returns a check that fails with e unless the condition holds.
func require(e api.Errno, condition func() bool) func() api.Errno {
	return func() api.Errno {
		if condition() {
			return api.OK
		}
		return e
	}
}

// least returns the least number from lo to hi for which a condition holds that, once it holds, goes on to hold; hi + 1 if there is none.
func least(lo, hi int, holds func(int) bool) int {
	return lo + sort.Search(hi-lo+1, func(i int) bool { return holds(lo + i) })
}

// within says whether x is from lo to hi.
func within(x, lo, hi int) bool {
	return lo <= x && x <= hi
}

// size returns the absolute value of a number that is known to be small.
func size(x int) int {
	return max(x, -x)
}
