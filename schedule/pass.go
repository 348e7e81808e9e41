package schedule

import (
	"iter"
	"slices"

	"cassegrain/api"
	"cassegrain/check"
	"cassegrain/number"
)

// startsOf returns the range of the slots in which a pass of a request may start.
func startsOf(r api.ScheduleRequest) api.Range {
	return api.Range{Lo: r.Window.Lo, Hi: r.Window.Hi - r.Length + 1}
}

// slotsOf returns the slots that a pass occupies.
func (w week) slotsOf(x api.SchedulePass) api.Range {
	return api.Range{Lo: x.Start, Hi: x.Start + w.Requests[x.Request].Length - 1}
}

// isOpen says whether the antennas of a pass are open in all of its slots.
func (w week) isOpen(x api.SchedulePass) bool {
	occupied := w.slotsOf(x)
	return !slices.ContainsFunc(x.Antennas, func(antenna int) bool { return w.closed[antenna].haveAny(occupied) })
}

// conflict says whether two possible passes conflict.
func (w week) conflict(x, y api.SchedulePass) bool {
	if x.Request == y.Request {
		return true
	}
	differ := w.Requests[x.Request].Mission != w.Requests[y.Request].Mission
	a, b := w.slotsOf(x), w.slotsOf(y)
	between := max(a.Lo, b.Lo) - min(a.Hi, b.Hi) - 1 // below 0 if they overlap
	return slices.ContainsFunc(x.Antennas, func(antenna int) bool {
		needed := 0
		if differ {
			needed = w.Antennas[antenna].Setup
		}
		return between < needed && slices.Contains(y.Antennas, antenna)
	})
}

// fits says whether a possible pass conflicts with none of others.
func (w week) fits(x api.SchedulePass, p []api.SchedulePass) bool {
	return !slices.ContainsFunc(p, func(y api.SchedulePass) bool { return w.conflict(x, y) })
}

// choicesOf returns the sets of antennas from which a request may be served, in lexicographic order.
func choicesOf(r api.ScheduleRequest) [][]int {
	var choices [][]int
	for set := range number.Sets(len(r.Antennas)) {
		if len(set) != r.Need {
			continue
		}
		antennas := make([]int, r.Need)
		for i, j := range set {
			antennas[i] = r.Antennas[j]
		}
		choices = append(choices, antennas)
	}
	return choices
}

// placements yields the possible passes of a request that conflict with none of others, in their order.
func (w week) placements(p []api.SchedulePass, request int) iter.Seq[api.SchedulePass] {
	r := w.Requests[request]
	choices, starts := choicesOf(r), startsOf(r)
	return func(yield func(api.SchedulePass) bool) {
		for start := starts.Lo; start <= starts.Hi; start++ {
			for _, antennas := range choices {
				x := api.SchedulePass{Request: request, Start: start, Antennas: slices.Clone(antennas)}
				if w.isOpen(x) && w.fits(x, p) && !yield(x) {
					return
				}
			}
		}
	}
}

// checkPass checks a pass of a request that exists.
func (w week) checkPass(x api.SchedulePass) api.Errno {
	r := w.Requests[x.Request]
	starts := startsOf(r)
	return check.First(
		check.Range(x.Start, starts.Lo, starts.Hi),
		check.Require(api.ErrShape, func() bool { return len(x.Antennas) == r.Need }),
		func() api.Errno {
			_, e := check.Indexed(x.Antennas, func(i, antenna int) api.Errno {
				return check.First(
					check.Require(api.ErrMissing, func() bool { return slices.Contains(r.Antennas, antenna) }),
					ascending(x.Antennas, i),
				)
			})
			return e
		},
		check.Require(api.ErrState, func() bool { return w.isOpen(x) }),
	)
}
