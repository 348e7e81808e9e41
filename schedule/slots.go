package schedule

import (
	"slices"

	"cassegrain/api"
)

// slots is a set of the slots of an antenna.
type slots [api.MaxScheduleTime]bool

// fill adds a range of slots.
func (s *slots) fill(r api.Range) {
	for at := r.Lo; at <= r.Hi; at++ {
		s[at] = true
	}
}

// haveAny says whether one of the slots of a range is in the set.
func (s *slots) haveAny(r api.Range) bool {
	return slices.Contains(s[r.Lo:r.Hi+1], true)
}

// gaps returns the maximal ranges of slots below count that are not in the set.
func (s *slots) gaps(count int) []api.Range {
	var gaps []api.Range
	for at, taken := range s[:count] {
		last := len(gaps) - 1
		switch {
		case taken:
		case last >= 0 && gaps[last].Hi == at-1:
			gaps[last].Hi = at
		default:
			gaps = append(gaps, api.Range{Lo: at, Hi: at})
		}
	}
	return gaps
}

// missing returns the number of slots below count that are not in the set.
func (s *slots) missing(count int) int {
	n := 0
	for _, gap := range s.gaps(count) {
		n += gap.Hi - gap.Lo + 1
	}
	return n
}
