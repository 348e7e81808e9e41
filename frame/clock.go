package frame

import (
	"math"
	"slices"

	"cassegrain/api"
	"cassegrain/check"
	"cassegrain/number"
)

// CheckPairs checks pairs, and returns the index of the pair that an error concerns.
func CheckPairs(l []api.FramePair) (int, api.Errno) {
	if len(l) == 0 {
		return 0, api.ErrShape
	}
	if len(l) > api.MaxFramePairs {
		return 0, api.ErrLarge
	}
	return check.Indexed(l, func(i int, p api.FramePair) api.Errno {
		return check.First(
			check.Range(p.Count, 0, api.MaxFrameCount),
			check.Ends(p.Time, 0, api.MaxTick),
			check.Ordered(p.Time),
			check.Require(api.ErrOrder, func() bool { return i == 0 || l[i-1].Count < p.Count }),
		)
	})
}

// pairsCheck is the check of pairs.
func pairsCheck(l []api.FramePair) func() api.Errno {
	return func() api.Errno {
		_, e := CheckPairs(l)
		return e
	}
}

// extremes checks that there are two pairs or more, and returns the lines through them between which all others lie.
func extremes(l []api.FramePair) ([]line, api.Errno) {
	e := check.First(pairsCheck(l), check.Require(api.ErrShape, func() bool { return len(l) > 1 }))
	if e != api.OK {
		return nil, e
	}
	lines := slices.Collect(linesThrough(l))
	if len(lines) == 0 {
		return nil, api.ErrClash
	}
	return lines, api.OK
}

// RatesOf returns the minimum and the maximum rate of all lines through pairs.
func RatesOf(l []api.FramePair) ([2]api.Frac, api.Errno) {
	lines, e := extremes(l)
	if e != api.OK {
		return [2]api.Frac{}, e
	}
	slowest, fastest := slices.MinFunc(lines, compareRates), slices.MaxFunc(lines, compareRates)
	rates := [2]api.Frac{number.Lowest(slowest.rise, slowest.run), number.Lowest(fastest.rise, fastest.run)}
	if slices.ContainsFunc(rates[:], func(rate api.Frac) bool { return number.Size(rate.Num) > api.MaxPart }) {
		return [2]api.Frac{}, api.ErrLarge
	}
	return rates, api.OK
}

// PiecesOf returns the pieces of a clock.
func PiecesOf(l []api.FramePair) ([]api.Range, api.Errno) {
	if e := pairsCheck(l)(); e != api.OK {
		return nil, e
	}
	pieces := []api.Range{{}}
	for i := range l {
		piece := &pieces[len(pieces)-1]
		if haveLine(l[piece.Lo : i+1]) {
			piece.Hi = i
		} else {
			pieces = append(pieces, api.Range{Lo: i, Hi: i})
		}
	}
	return pieces, api.OK
}

// TimeAt returns the range of the times of all lines through pairs at a count, rounded down and up.
func TimeAt(l []api.FramePair, count int) (api.Range, api.Errno) {
	lines, e := extremes(l)
	if e != api.OK {
		return api.Range{}, e
	}
	if !number.Within(count, 0, api.MaxFrameCount) {
		return api.Range{}, api.ErrRange
	}
	times := api.Range{Lo: math.MaxInt, Hi: math.MinInt}
	for _, x := range lines {
		times.Lo = min(times.Lo, number.Floor(x.timesRun(count), x.run))
		times.Hi = max(times.Hi, number.Ceiling(x.timesRun(count), x.run))
	}
	return times, api.OK
}
