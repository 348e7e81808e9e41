package symbol

import (
	"iter"

	"cassegrain/api"
	"cassegrain/check"
)

// receiver finds markers in soft symbols by its rules.
type receiver struct {
	api.SymbolRules
	soft []int
}

// newReceiver checks rules and soft symbols.
func newReceiver(r api.SymbolRules, soft []int) (receiver, api.Errno) {
	e := check.First(func() api.Errno { return CheckRules(r) }, softCheck(soft))
	if e != api.OK {
		return receiver{}, e
	}
	return receiver{SymbolRules: r, soft: soft}, api.OK
}

// exists says whether all symbols of a marker exist at a position, which is not below 0.
func (r receiver) exists(at int) bool {
	return at+len(r.Marker) <= len(r.soft)
}

// markAt returns a mark of a kind at a position at which a marker's symbols exist, and whether few enough of them are wrong.
func (r receiver) markAt(kind, at int, inverted bool) (api.SymbolMark, bool) {
	counts := wrong(r.Marker, r.soft[at:at+len(r.Marker)])
	mark := api.SymbolMark{Kind: kind, At: at, Inverted: inverted, Wrong: counts[0]}
	if inverted {
		mark.Wrong = counts[1]
	}
	return mark, mark.Wrong <= r.Errors
}

// firstMark returns the first of some marks that is accepted.
func firstMark[T any](items []T, try func(T) (api.SymbolMark, bool)) (api.SymbolMark, bool) {
	for _, item := range items {
		if mark, ok := try(item); ok {
			return mark, true
		}
	}
	return api.SymbolMark{}, false
}

// foundFrom yields the marks of all markers that are found from a position on.
func (r receiver) foundFrom(from int) iter.Seq[api.SymbolMark] {
	return func(yield func(api.SymbolMark) bool) {
		for at := from; r.exists(at); at++ {
			mark, ok := firstMark([]bool{false, true}, func(inverted bool) (api.SymbolMark, bool) {
				return r.markAt(api.SymbolFound, at, inverted)
			})
			if ok && !yield(mark) {
				return
			}
		}
	}
}

// displacements returns the displacements that are tried, in their order.
func (r receiver) displacements() []int {
	l := []int{0}
	for i := range r.Slip {
		l = append(l, -i-1, i+1)
	}
	return l
}

// expected returns the mark of a marker that is expected at a position, if it is there or displaced.
func (r receiver) expected(at int, inverted bool) (api.SymbolMark, bool) {
	return firstMark(r.displacements(), func(moved int) (api.SymbolMark, bool) {
		mark, ok := r.markAt(api.SymbolLocked, at+moved, inverted)
		mark.Moved = moved
		return mark, ok
	})
}

// FindMarkers returns a mark for each position at which a marker is found.
func FindMarkers(r api.SymbolRules, soft []int) ([]api.SymbolMark, api.Errno) {
	x, e := newReceiver(r, soft)
	if e != api.OK {
		return nil, e
	}
	var marks []api.SymbolMark
	for mark := range x.foundFrom(0) {
		marks = append(marks, mark)
	}
	return marks, api.OK
}
