package schedule

import (
	"slices"

	"cassegrain/api"
	"cassegrain/check"
	"cassegrain/number"
)

// Best returns the plan with the maximum value, and its value.
func Best(w api.ScheduleWeek) ([]api.SchedulePass, int, api.Errno) {
	k, e := newSmallWeek(w)
	if e != api.OK {
		return nil, 0, e
	}
	best := newSearch(k, k.valueOf).best()
	return best.passes, best.worth, api.OK
}

// togetherIn returns what says whether requests of a small week can be granted together.
func (w week) togetherIn() func(requests []int) bool {
	s := newSearch(w, func(api.SchedulePass) int { return 1 })
	return func(requests []int) bool {
		complete := func(count int) bool { return count == len(requests) }
		of := s.where(func(x api.SchedulePass) bool { return slices.Contains(requests, x.Request) })
		for p := range s.plans(of, complete) {
			if complete(p.worth) {
				return true
			}
		}
		return false
	}
}

// Together returns whether there is a plan in which each of some requests has a pass.
func Together(w api.ScheduleWeek, requests []int) (bool, api.Errno) {
	k, e := newSmallWeek(w)
	if e != api.OK {
		return false, e
	}
	_, e = check.Indexed(requests, func(i, request int) api.Errno {
		return check.First(k.requestCheck(request), ascending(requests, i))
	})
	if e != api.OK {
		return false, e
	}
	return k.togetherIn()(requests), api.OK
}

// MinimumConflict returns the minimum set of requests that cannot be granted together.
func MinimumConflict(w api.ScheduleWeek) ([]int, api.Errno) {
	k, e := newSmallWeek(w)
	if e != api.OK {
		return nil, e
	}
	together := k.togetherIn()
	set := number.MinimumSet(len(k.Requests), func(set []int) bool { return !together(set) })
	if len(set) == 0 { // no request can always be granted
		return nil, api.ErrNone
	}
	return set, api.OK
}

// What changes of a plan are worth when a request is included in it: a change outweighs all values, and the request all changes.
const (
	changeWorth  = api.MaxScheduleSmall*api.MaxScheduleValue + 1
	includeWorth = (2*api.MaxScheduleSmall + 1) * changeWorth
)

// worthBeside returns what a pass is worth when a request is included in a plan. A request of the plan without a pass is changed, too, so that another pass of it makes no more changes.
func (w week) worthBeside(p []api.SchedulePass, request int) func(api.SchedulePass) int {
	return func(x api.SchedulePass) int {
		worth := w.valueOf(x)
		if x.Request == request {
			worth += includeWorth
		}
		switch {
		case hasPass(p, x):
			worth += changeWorth
		case !has(p, x.Request):
			worth -= changeWorth
		}
		return worth
	}
}

// Included returns, of all plans that have a pass of a request, the one with the minimum number of changes from a plan.
func Included(w api.ScheduleWeek, p []api.SchedulePass, request int) ([]api.SchedulePass, api.Errno) {
	k, e := newSmallWeek(w)
	if e == api.OK {
		_, e = k.checkPlan(p)
	}
	if e == api.OK {
		e = k.requestCheck(request)()
	}
	if e != api.OK {
		return nil, e
	}
	best := newSearch(k, k.worthBeside(p, request)).best()
	if !has(best.passes, request) {
		return nil, api.ErrNone
	}
	return best.passes, api.OK
}
