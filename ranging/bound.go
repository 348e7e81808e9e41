package ranging

import (
	"cmp"
	"slices"

	"cassegrain/api"
	"cassegrain/check"
	"cassegrain/number"
)

// contradict says whether measurements contradict each other.
func contradict(l []measurement) bool {
	for range vertices(l) {
		return false
	}
	return true
}

// bounded says whether measurements that do not contradict each other bound a form: one of them measures a multiple of it, or two of them something from which it is computed.
func bounded(l []measurement, f form) bool {
	return slices.ContainsFunc(l, func(m measurement) bool { return m.across(f) == 0 || m.across(l[0].form) != 0 })
}

// extremes returns the minimum and the maximum value of a form for all possible lines.
func extremes(l []measurement, f form) ([2]api.Frac, api.Errno) {
	lines := slices.Collect(vertices(l))
	if len(lines) == 0 {
		return [2]api.Frac{}, api.ErrClash
	}
	if !bounded(l, f) {
		return [2]api.Frac{}, api.ErrOpen
	}
	compare := func(x, y line) int { return cmp.Compare(f.of(x)*y.den, f.of(y)*x.den) }
	least, most := slices.MinFunc(lines, compare), slices.MaxFunc(lines, compare)
	return [2]api.Frac{number.Lowest(f.of(least), least.den), number.Lowest(f.of(most), most.den)}, api.OK
}

// DistanceIn returns the minimum and the maximum distance at a time of all possible lines.
func DistanceIn(l []api.RangingMeasurement, time int) ([2]api.Frac, api.Errno) {
	if e := check.First(measurementsCheck(l), timeCheck(time)); e != api.OK {
		return [2]api.Frac{}, e
	}
	return extremes(measurementsOf(l), distanceAt(time))
}

// SpeedOf returns the minimum and the maximum speed of all possible lines.
func SpeedOf(l []api.RangingMeasurement) ([2]api.Frac, api.Errno) {
	if e := measurementsCheck(l)(); e != api.OK {
		return [2]api.Frac{}, e
	}
	return extremes(measurementsOf(l), changeIn(1))
}

// Contradicting returns the minimum set of measurements that contradict each other.
func Contradicting(l []api.RangingMeasurement) ([]int, api.Errno) {
	if e := measurementsCheck(l)(); e != api.OK {
		return nil, e
	}
	checked := measurementsOf(l)
	if !contradict(checked) {
		return nil, api.ErrNone
	}
	set := number.MinimumSet(len(l), func(set []int) bool {
		var chosen []measurement
		for _, i := range set {
			chosen = append(chosen, checked[i])
		}
		return contradict(chosen)
	})
	return set, api.OK
}
