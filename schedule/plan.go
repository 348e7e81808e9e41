package schedule

import (
	"cmp"
	"slices"

	"cassegrain/api"
	"cassegrain/check"
)

// checkPlan checks a plan, and returns the index of the pass that an error concerns.
func (w week) checkPlan(p []api.SchedulePass) (int, api.Errno) {
	return check.Indexed(p, func(i int, x api.SchedulePass) api.Errno {
		return check.First(
			w.requestCheck(x.Request),
			check.Require(api.ErrOrder, func() bool { return i == 0 || p[i-1].Request < x.Request }),
			func() api.Errno { return w.checkPass(x) },
			check.Require(api.ErrClash, func() bool { return w.fits(x, p[:i]) }),
		)
	})
}

// CheckPlan checks a plan of a week, and returns the index of the pass that an error concerns.
func CheckPlan(w api.ScheduleWeek, p []api.SchedulePass) (int, api.Errno) {
	k, e := newWeek(w)
	if e != api.OK {
		return 0, e
	}
	return k.checkPlan(p)
}

// valueOf returns the value of a pass.
func (w week) valueOf(x api.SchedulePass) int {
	return w.Requests[x.Request].Value
}

// ValueOf returns the value of a plan.
func ValueOf(w api.ScheduleWeek, p []api.SchedulePass) (int, api.Errno) {
	k, e := newPlannedWeek(w, p)
	if e != api.OK {
		return 0, e
	}
	value := 0
	for _, x := range p {
		value += k.valueOf(x)
	}
	return value, api.OK
}

// has says whether a plan has a pass of a request.
func has(p []api.SchedulePass, request int) bool {
	return slices.ContainsFunc(p, func(x api.SchedulePass) bool { return x.Request == request })
}

// hasPass says whether a plan has a pass.
func hasPass(p []api.SchedulePass, x api.SchedulePass) bool {
	return slices.ContainsFunc(p, func(y api.SchedulePass) bool {
		return x.Request == y.Request && x.Start == y.Start && slices.Equal(x.Antennas, y.Antennas)
	})
}

// Placements returns the possible passes of a request that conflict with no pass of a plan.
func Placements(w api.ScheduleWeek, p []api.SchedulePass, request int) ([]api.SchedulePass, api.Errno) {
	k, e := newPlannedWeek(w, p)
	if e != api.OK {
		return nil, e
	}
	e = check.First(
		k.requestCheck(request),
		check.Require(api.ErrDouble, func() bool { return !has(p, request) }),
	)
	if e != api.OK {
		return nil, e
	}
	return slices.Collect(k.placements(p, request)), api.OK
}

// Greedy returns the plan in which each request, the most valuable ones first, gets its first placement.
func Greedy(w api.ScheduleWeek) ([]api.SchedulePass, api.Errno) {
	k, e := newWeek(w)
	if e != api.OK {
		return nil, e
	}
	var p []api.SchedulePass
	for _, request := range k.byValue() {
		for x := range k.placements(p, request) {
			p = append(p, x)
			break
		}
	}
	slices.SortFunc(p, func(x, y api.SchedulePass) int { return cmp.Compare(x.Request, y.Request) })
	return p, api.OK
}

// byValue returns the indexes of all requests, by their descending values, then ascending.
func (w week) byValue() []int {
	order := make([]int, len(w.Requests))
	for i := range order {
		order[i] = i
	}
	slices.SortStableFunc(order, func(i, j int) int { return cmp.Compare(w.Requests[j].Value, w.Requests[i].Value) })
	return order
}

// ToTell returns the names of all missions that have a request whose pass is changed between two plans.
func ToTell(w api.ScheduleWeek, x api.SchedulePlans) ([]string, api.Errno) {
	k, e := newPlannedWeek(w, x.Old)
	if e == api.OK {
		_, e = k.checkPlan(x.New)
	}
	if e != api.OK {
		return nil, e
	}
	var missions []string
	for request, r := range k.Requests {
		if isChanged(x, request) && !slices.Contains(missions, r.Mission) {
			missions = append(missions, r.Mission)
		}
	}
	return missions, api.OK
}

// isChanged says whether one of two plans has a pass of a request that the other one does not have.
func isChanged(x api.SchedulePlans, request int) bool {
	lost := func(from, to []api.SchedulePass) bool {
		return slices.ContainsFunc(from, func(y api.SchedulePass) bool { return y.Request == request && !hasPass(to, y) })
	}
	return lost(x.Old, x.New) || lost(x.New, x.Old)
}
