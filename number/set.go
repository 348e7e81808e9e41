package number

import (
	"iter"
	"slices"
)

// Sets yields all sets of the indexes below count: smaller ones come first, and those of a size in lexicographic order.
func Sets(count int) iter.Seq[[]int] {
	return func(yield func([]int) bool) {
		sets := [][]int{nil}
		for at := 0; at < len(sets); at++ {
			set := sets[at]
			next := 0
			if len(set) > 0 {
				next = set[len(set)-1] + 1
			}
			for ; next < count; next++ {
				sets = append(sets, append(slices.Clone(set), next))
			}
			if !yield(set) {
				return
			}
		}
	}
}

// MinimumSet returns the minimum set of the indexes below count that is wrong, nil if there is none.
func MinimumSet(count int, wrong func(set []int) bool) []int {
	for set := range Sets(count) {
		if wrong(set) {
			return set
		}
	}
	return nil
}
