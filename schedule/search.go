package schedule

import (
	"iter"
	"math/bits"

	"cassegrain/api"
)

// options is, for each request of a small week, a set of its candidates: the bit 1 << i is set if candidate i is in it. A request has at most 48 of them, as it has at most 8 starts, and 6 choices among 4 antennas.
type options [api.MaxScheduleSmall]uint64

// candidate is a possible pass, what it adds to the worth of a plan, and all candidates that do not conflict with it.
type candidate struct {
	api.SchedulePass
	worth int
	rest  options
}

// search is the candidates of each request of a small week, in their order, and the most that a request can add to the worth of a plan: at least 0, as it may be left out.
type search struct {
	candidates [api.MaxScheduleSmall][]candidate
	most       [api.MaxScheduleSmall]int
}

// newSearch prepares a search among the plans of a small week whose passes are worth what a closure says.
func newSearch(w week, worth func(api.SchedulePass) int) search {
	var s search
	for i := range w.Requests {
		for x := range w.placements(nil, i) {
			c := candidate{SchedulePass: x, worth: worth(x)}
			s.candidates[i] = append(s.candidates[i], c)
			s.most[i] = max(s.most[i], c.worth)
		}
	}
	for _, l := range s.candidates {
		for i, c := range l {
			l[i].rest = s.where(func(x api.SchedulePass) bool { return !w.conflict(c.SchedulePass, x) })
		}
	}
	return s
}

// where returns the candidates for which a condition holds.
func (s search) where(condition func(api.SchedulePass) bool) options {
	var o options
	for i, l := range s.candidates {
		for j, c := range l {
			if condition(c.SchedulePass) {
				o[i] |= 1 << j
			}
		}
	}
	return o
}

// plan is a plan, and what it is worth.
type plan struct {
	passes []api.SchedulePass
	worth  int
}

// with returns the plan with one more pass. It is cut with its capacity, so that plans which grow from the same one do not share the new pass.
func (p plan) with(c candidate) plan {
	n := len(p.passes)
	return plan{passes: append(p.passes[:n:n], c.SchedulePass), worth: p.worth + c.worth}
}

// state is how a plan can grow: the first request that may be added, and the candidates that are left of it and of those after it.
type state struct {
	next int
	left options
}

// granted returns the state after a candidate of the next request was added.
func (a state) granted(c candidate) state {
	for i := range a.left {
		a.left[i] &= c.rest[i] // no candidate of the same request remains
	}
	a.next++
	return a
}

// skipped returns the state after the next request was left out.
func (a state) skipped() state {
	a.left[a.next] = 0
	a.next++
	return a
}

// growth is a search in which plans grow.
type growth struct {
	search
	promising func(limit int) bool
	yield     func(plan) bool
	reached   map[state]int // the most that a plan with this state was worth
}

// plans yields plans of some candidates, in their order. It leaves out what is no use: plans that are worth at most a limit which is not promising, and those that grow from a plan in the same way as from an earlier one which is worth at least as much.
func (s search) plans(all options, promising func(limit int) bool) iter.Seq[plan] {
	return func(yield func(plan) bool) {
		g := growth{search: s, promising: promising, yield: yield, reached: map[state]int{}}
		g.grow(plan{}, state{left: all})
	}
}

// grow yields a plan and those that grow from it, and says whether to go on.
func (g growth) grow(p plan, at state) bool {
	if !g.yield(p) {
		return false
	}
	for ; at.next < len(g.candidates); at = at.skipped() {
		if !g.promising(p.worth+g.limit(at)) || g.isKnown(at, p.worth) {
			return true
		}
		for left := at.left[at.next]; left != 0; left &= left - 1 {
			c := g.candidates[at.next][bits.TrailingZeros64(left)]
			if !g.grow(p.with(c), at.granted(c)) {
				return false
			}
		}
	}
	return true
}

// limit returns an upper bound of what the requests that are left can add to the worth of a plan.
func (g growth) limit(at state) int {
	limit := 0
	for i, left := range at.left {
		if left != 0 {
			limit += g.most[i]
		}
	}
	return limit
}

// isKnown says whether an earlier plan with this state was worth at least as much. If so, whatever grows from the later one is no better than what grows from the earlier one, and comes after it.
func (g growth) isKnown(at state, worth int) bool {
	before, ok := g.reached[at]
	if ok && worth <= before {
		return true
	}
	g.reached[at] = worth
	return false
}

// best returns the plan that is worth most, of several the first one.
func (s search) best() plan {
	var best plan
	better := func(worth int) bool { return worth > best.worth }
	all := s.where(func(api.SchedulePass) bool { return true })
	for p := range s.plans(all, better) {
		if better(p.worth) {
			best = p
		}
	}
	return best
}
