package symbol

import (
	"cassegrain/api"
	"cassegrain/check"
)

// CheckRules checks the rules of frame synchronization.
func CheckRules(r api.SymbolRules) api.Errno {
	return check.First(
		markerCheck(r.Marker),
		check.Range(r.Length, 1, api.MaxSymbolFrame),
		errorsCheck(r.Errors),
		check.Range(r.Verify, 1, api.MaxSymbolVerify),
		check.Range(r.Fly, 0, api.MaxSymbolFly),
		check.Range(r.Slip, 0, api.MaxSymbolSlip),
		check.Require(api.ErrBreak, func() bool { return 2*r.Errors < len(r.Marker) }),
		check.Require(api.ErrShape, func() bool { return r.Length > len(r.Marker)+r.Slip }),
	)
}

// errorsCheck is the check of a number of wrong symbols.
func errorsCheck(errors int) func() api.Errno {
	return check.Range(errors, 0, api.MaxSymbolMarker)
}

// mismatches returns the mismatches of a valid marker for a shift.
func mismatches(marker []int, shift int) int {
	count := 0
	for i := shift; i < len(marker); i++ {
		count += marker[i] ^ marker[i-shift]
	}
	return count
}

// Mismatches returns the mismatches of all shifts, from 1 on.
func Mismatches(marker []int) ([]int, api.Errno) {
	if e := markerCheck(marker)(); e != api.OK {
		return nil, e
	}
	counts := make([]int, len(marker)-1)
	for i := range len(marker) - 1 {
		counts[i] = mismatches(marker, i+1)
	}
	return counts, api.OK
}

// firstShift returns the minimum shift of a marker of this length that fits, or the length if none does.
func firstShift(length int, fits func(shift int) bool) int {
	for i := range length - 1 {
		if shift := i + 1; fits(shift) {
			return shift
		}
	}
	return length
}

// SpacingOf returns the spacing of a marker.
func SpacingOf(marker []int, errors int) ([2]int, api.Errno) {
	if e := check.First(markerCheck(marker), errorsCheck(errors)); e != api.OK {
		return [2]int{}, e
	}
	length := len(marker)
	return [2]int{
		firstShift(length, func(shift int) bool { return mismatches(marker, shift) <= 2*errors }),
		firstShift(length, func(shift int) bool { return length-shift-mismatches(marker, shift) <= 2*errors }),
	}, api.OK
}

// wrong returns the numbers of wrong symbols of a marker, upright and inverted, in soft symbols that are as many.
func wrong(marker, soft []int) [2]int {
	var counts [2]int
	for i, bit := range marker {
		for inversion := range counts {
			if hard(soft[i]) != bit^inversion {
				counts[inversion]++
			}
		}
	}
	return counts
}

// WrongAt returns the numbers of wrong symbols of a marker at a position, upright and inverted.
func WrongAt(marker, soft []int, at int) ([2]int, api.Errno) {
	e := check.First(
		markerCheck(marker),
		softCheck(soft),
		check.Require(api.ErrMissing, func() bool { return 0 <= at && at <= len(soft)-len(marker) }),
	)
	if e != api.OK {
		return [2]int{}, e
	}
	return wrong(marker, soft[at:at+len(marker)]), api.OK
}
