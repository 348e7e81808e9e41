package ranging

import (
	"iter"
	"slices"

	"cassegrain/api"
	"cassegrain/check"
	"cassegrain/number"
)

// checkTone checks a tone.
func checkTone(t api.RangingTone) api.Errno {
	return check.First(
		check.Range(t.Period, 1, api.MaxRangingPeriod),
		check.Range(t.Remainder.Lo, 0, t.Period-1),
		check.Ordered(t.Remainder),
		check.Require(api.ErrBreak, func() bool { return t.Remainder.Hi-t.Remainder.Lo < t.Period }),
	)
}

// CheckTones checks tones, and returns the index of the tone that an error concerns.
func CheckTones(l []api.RangingTone) (int, api.Errno) {
	if len(l) > api.MaxRangingTones {
		return 0, api.ErrLarge
	}
	return check.Indexed(l, func(_ int, t api.RangingTone) api.Errno { return checkTone(t) })
}

// tonesCheck is the check of tones.
func tonesCheck(l []api.RangingTone) func() api.Errno {
	return check.AtMost(api.MaxRangingTones, l, checkTone)
}

// checkSearch checks tones, and the limit in which their candidates are searched.
func checkSearch(l []api.RangingTone, limit api.Range) api.Errno {
	return check.First(
		tonesCheck(l),
		check.Ends(limit, 0, api.MaxRangingLimit),
		check.Ordered(limit),
		check.Require(api.ErrLarge, func() bool { return limit.Hi-limit.Lo < api.MaxRangingSpan }),
	)
}

// fits says whether a distance fits a valid tone.
func fits(t api.RangingTone, distance int) bool {
	return number.Modulo(distance-t.Remainder.Lo, t.Period) <= t.Remainder.Hi-t.Remainder.Lo
}

// candidates yields the candidates of valid tones in a limit, ascending.
func candidates(l []api.RangingTone, limit api.Range) iter.Seq[int] {
	return func(yield func(int) bool) {
	distances:
		for distance := limit.Lo; distance <= limit.Hi; distance++ {
			for _, t := range l {
				if !fits(t, distance) {
					continue distances
				}
			}
			if !yield(distance) {
				return
			}
		}
	}
}

// candidateRanges returns the maximal ranges of neighbouring candidates.
func candidateRanges(l []api.RangingTone, limit api.Range) []api.Range {
	var ranges []api.Range
	for distance := range candidates(l, limit) {
		last := len(ranges) - 1
		if last >= 0 && ranges[last].Hi == distance-1 {
			ranges[last].Hi = distance
		} else {
			ranges = append(ranges, api.Range{Lo: distance, Hi: distance})
		}
	}
	return ranges
}

// Candidates returns the maximal ranges of neighbouring candidates in a limit.
func Candidates(l []api.RangingTone, limit api.Range) ([]api.Range, api.Errno) {
	if e := checkSearch(l, limit); e != api.OK {
		return nil, e
	}
	ranges := candidateRanges(l, limit)
	if len(ranges) > api.MaxRangingRanges {
		return nil, api.ErrLarge
	}
	return ranges, api.OK
}

// AmbiguityOf returns the ambiguity of tones.
func AmbiguityOf(l []api.RangingTone) (int, api.Errno) {
	if e := tonesCheck(l)(); e != api.OK {
		return 0, e
	}
	ambiguity := 1
	for _, t := range l {
		factor := t.Period / number.CommonDivisor(ambiguity, t.Period)
		if ambiguity > api.MaxNumber/factor {
			return 0, api.ErrLarge
		}
		ambiguity *= factor
	}
	return ambiguity, api.OK
}

// Resolved returns the range of the candidates in a limit if there is only one.
func Resolved(l []api.RangingTone, limit api.Range) (api.Range, api.Errno) {
	if e := checkSearch(l, limit); e != api.OK {
		return api.Range{}, e
	}
	ranges := candidateRanges(l, limit)
	if len(ranges) == 0 {
		return api.Range{}, api.ErrNone
	}
	if len(ranges) > 1 {
		return api.Range{}, api.ErrOpen
	}
	return ranges[0], api.OK
}

// fitting says for each tone whether a distance fits it.
type fitting [api.MaxRangingTones]bool

// fittingOf returns which of some valid tones a distance fits.
func fittingOf(l []api.RangingTone, distance int) fitting {
	var f fitting
	for i, t := range l {
		f[i] = fits(t, distance)
	}
	return f
}

// all says whether the distance fits all tones of a set.
func (f fitting) all(set []int) bool {
	return !slices.ContainsFunc(set, func(i int) bool { return !f[i] })
}

// ContradictingTones returns the minimum set of tones that have no candidate in a limit together.
func ContradictingTones(l []api.RangingTone, limit api.Range) ([]int, api.Errno) {
	if e := checkSearch(l, limit); e != api.OK {
		return nil, e
	}
	found := map[fitting]bool{} // few, while there are many distances and many sets
	for distance := limit.Lo; distance <= limit.Hi; distance++ {
		found[fittingOf(l, distance)] = true
	}
	set := number.MinimumSet(len(l), func(set []int) bool {
		for f := range found {
			if f.all(set) {
				return false
			}
		}
		return true
	})
	if len(set) == 0 {
		return nil, api.ErrNone
	}
	return set, api.OK
}
