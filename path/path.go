// Package path is chapter 1: paths of probes with enclosures. See shared/doc/01-path.md.
package path

import "sort"

// least returns the least number from lo to hi for which a condition holds that, once it holds, goes on to hold; hi + 1 if there is none.
func least(lo, hi int, holds func(int) bool) int {
	return lo + sort.Search(hi-lo+1, func(i int) bool { return holds(lo + i) })
}
