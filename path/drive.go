package path

import (
	"slices"

	"cassegrain/api"
	"cassegrain/check"
	"cassegrain/number"
)

// never is the travel of a motion that is not possible.
const never = -1

// stop is a position for a target, and the minimum travel from there through all later targets.
type stop struct{ at, rest int }

// CheckDrive checks a drive.
func CheckDrive(d api.PathDrive) api.Errno {
	const limit = api.MaxPathLimit
	return check.First(
		check.Require(api.ErrRange, func() bool {
			return number.Within(d.Turn, 1, api.MaxPathTurn) && number.Within(d.Limits.Lo, -limit, limit) &&
				number.Within(d.Limits.Hi, -limit, limit) && number.Within(d.Rate, 0, 2*limit)
		}),
		check.Ordered(d.Limits),
		check.Require(api.ErrRange, func() bool { return number.Within(d.Start, d.Limits.Lo, d.Limits.Hi) }),
	)
}

// checkTargets checks a drive and its targets.
func checkTargets(d api.PathDrive, targets []int) api.Errno {
	return check.First(
		func() api.Errno { return CheckDrive(d) },
		check.AtMost(api.MaxPathTargets, targets, check.Numbers(0, d.Turn-1)),
	)
}

// stopsAfter returns the positions for a target to which a minimum motion may go on from these stops, which ascend.
//
// They are less than a turn away, since no step of a minimum motion is a turn or more. Suppose that a step upwards is. Then all positions from its end on can be lowered by a turn, up to the first one that would leave the limits, if there is one; from there on the motion stays as it was. This shortens the long step by a turn. The step to the first position that stays went down, by some s above 0, and becomes the difference of a turn and s: it is still within the rate, since both are, and longer by less than a turn. So the travel decreases. The same holds downwards.
func stopsAfter(d api.PathDrive, from []stop, target int) []stop {
	if len(from) == 0 {
		return nil
	}
	lo := max(d.Limits.Lo, from[0].at-d.Turn)
	hi := min(d.Limits.Hi, from[len(from)-1].at+d.Turn)
	var l []stop
	for at := target + d.Turn*number.Ceiling(lo-target, d.Turn); at <= hi; at += d.Turn {
		l = append(l, stop{at: at})
	}
	return l
}

// travelVia returns the minimum travel from a position to a next stop and through all later targets.
func travelVia(d api.PathDrive, from int, next stop) int {
	step := number.Size(next.at - from)
	if step > d.Rate || next.rest == never {
		return never
	}
	return step + next.rest
}

// minimumRest returns the minimum travel from a position through the target of these stops and all later ones.
func minimumRest(d api.PathDrive, from int, stops []stop) int {
	best := never
	for _, s := range stops {
		if n := travelVia(d, from, s); n != never && (best == never || n < best) {
			best = n
		}
	}
	return best
}

// stopsOf returns the stops of all targets that a minimum motion may use.
func stopsOf(d api.PathDrive, targets []int) [][]stop {
	stops := make([][]stop, len(targets))
	before := []stop{{at: d.Start}}
	for i, t := range targets {
		stops[i] = stopsAfter(d, before, t)
		before = stops[i]
	}
	for i := len(stops) - 2; i >= 0; i-- {
		for j := range stops[i] {
			stops[i][j].rest = minimumRest(d, stops[i][j].at, stops[i+1])
		}
	}
	return stops
}

// minimumMotion returns the motion with the minimum travel, of several the lexicographically first one, and its travel, or never.
func minimumMotion(d api.PathDrive, targets []int) ([]int, int) {
	var positions []int
	at, travel := d.Start, 0
	for _, stops := range stopsOf(d, targets) {
		rest := minimumRest(d, at, stops)
		if rest == never {
			return nil, never
		}
		i := slices.IndexFunc(stops, func(s stop) bool { return travelVia(d, at, s) == rest })
		travel += number.Size(stops[i].at - at)
		at = stops[i].at
		positions = append(positions, at)
	}
	return positions, travel
}

// Pointing returns the motion with the minimum travel, and its travel.
func Pointing(d api.PathDrive, targets []int) ([]int, int, api.Errno) {
	if e := checkTargets(d, targets); e != api.OK {
		return nil, 0, e
	}
	positions, travel := minimumMotion(d, targets)
	if travel == never {
		return nil, 0, api.ErrNone
	}
	return positions, travel, api.OK
}

// CheckPointing accepts a motion, and returns its travel.
func CheckPointing(d api.PathDrive, targets, positions []int) (int, api.Errno) {
	if e := checkTargets(d, targets); e != api.OK {
		return 0, e
	}
	if len(positions) != len(targets) {
		return 0, api.ErrShape
	}
	travel, before := 0, d.Start
	for i, at := range positions {
		e := check.First(
			check.Require(api.ErrBreak, func() bool { return number.Within(at, d.Limits.Lo, d.Limits.Hi) }),
			check.Require(api.ErrClash, func() bool { return (at-targets[i])%d.Turn == 0 }),
			check.Require(api.ErrLate, func() bool { return number.Size(at-before) <= d.Rate }),
		)
		if e != api.OK {
			return 0, e
		}
		travel += number.Size(at - before)
		before = at
	}
	return travel, api.OK
}

// MinimumRate returns the minimum rate with which there is a motion.
func MinimumRate(d api.PathDrive, targets []int) (int, api.Errno) {
	if e := checkTargets(d, targets); e != api.OK {
		return 0, e
	}
	const most = 2 * api.MaxPathLimit // no two positions are farther apart
	rate := least(0, most, func(rate int) bool {
		slower := d
		slower.Rate = rate
		_, travel := minimumMotion(slower, targets)
		return travel != never
	})
	if rate > most {
		return 0, api.ErrNone
	}
	return rate, api.OK
}
