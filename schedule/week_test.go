package schedule_test

import (
	"fmt"
	"slices"
	"strings"
	"testing"

	"cassegrain/api"
	"cassegrain/schedule"
)

type weekFault = fault[api.ScheduleWeek, api.ScheduleMark]

// badNames returns strings that are not names.
func badNames() []string {
	return []string{"", "abcdefghijklm", "9a", "-a", " ", "a b", "a+", "a@", "a_", "\u00e4", "a\x00"}
}

// badRanges returns faults of a range of slots from 0 to 9.
func badRanges(part string, mark api.ScheduleMark, rangeOf func(*api.ScheduleWeek) *api.Range) []weekFault {
	var l []weekFault
	add := func(want api.Errno, r api.Range) {
		l = append(l, weekFault{part, mark, func(w *api.ScheduleWeek) { *rangeOf(w) = r }, want})
	}
	for _, n := range badNumbers(0, 9) {
		add(api.ErrRange, within(n, 5))
		add(api.ErrRange, within(2, n))
		add(api.ErrRange, within(n, n))
	}
	add(api.ErrOrder, within(5, 4))
	add(api.ErrOrder, within(9, 0))
	return l
}

// weekFaults returns the faults of the week of example 5, in the order in which they are checked.
func weekFaults() []weekFault {
	var l []weekFault
	add := func(part string, want api.Errno, spoil func(*api.ScheduleWeek)) {
		l = append(l, weekFault{part, api.ScheduleMark{}, spoil, want})
	}
	for _, n := range badNumbers(1, 200) {
		add("slots", api.ErrRange, func(w *api.ScheduleWeek) { w.Slots = n })
	}
	add("antennas", api.ErrLarge, func(w *api.ScheduleWeek) { w.Antennas = append(w.Antennas, openWeek(1, 3).Antennas...) })
	add("antennas", api.ErrLarge, func(w *api.ScheduleWeek) { w.Antennas = make([]api.ScheduleAntenna, 1000) })
	add("requests", api.ErrLarge, func(w *api.ScheduleWeek) {
		w.Requests = slices.Concat(w.Requests, w.Requests, w.Requests, w.Requests[:1])
	})
	add("requests", api.ErrLarge, func(w *api.ScheduleWeek) { w.Requests = make([]api.ScheduleRequest, 1000) })
	for i := range 2 {
		l = append(l, antennaFaults(i)...)
	}
	for i := range 4 {
		l = append(l, requestFaults(i)...)
	}
	return l
}

func antennaFaults(i int) []weekFault {
	var l []weekFault
	part, mark := fmt.Sprint("antennas ", i), api.ScheduleMark{List: api.ScheduleAntennas, Index: i}
	add := func(what string, want api.Errno, spoil func(*api.ScheduleAntenna)) {
		l = append(l, weekFault{part + what, mark, func(w *api.ScheduleWeek) { spoil(&w.Antennas[i]) }, want})
	}
	for _, name := range badNames() {
		add(" name", api.ErrName, func(a *api.ScheduleAntenna) { a.Name = name })
	}
	if i == 1 {
		add(" name", api.ErrExists, func(a *api.ScheduleAntenna) { a.Name = "a" })
	}
	for _, n := range badNumbers(0, 50) {
		add(" setup", api.ErrRange, func(a *api.ScheduleAntenna) { a.Setup = n })
	}
	add(" closed", api.ErrLarge, func(a *api.ScheduleAntenna) { a.Closed = make([]api.Range, 7) })
	add(" closed", api.ErrLarge, func(a *api.ScheduleAntenna) { a.Closed = slices.Repeat([]api.Range{within(-1, -2)}, 1000) })
	return append(l, badRanges(part+" closed", mark, func(w *api.ScheduleWeek) *api.Range {
		w.Antennas[i].Closed = []api.Range{within(0, 9), within(4, 4), within(2, 3)}
		return &w.Antennas[i].Closed[2]
	})...)
}

func requestFaults(i int) []weekFault {
	var l []weekFault
	part, mark := fmt.Sprint("requests ", i), api.ScheduleMark{List: api.ScheduleRequests, Index: i}
	add := func(what string, want api.Errno, spoil func(*api.ScheduleRequest)) {
		l = append(l, weekFault{part + what, mark, func(w *api.ScheduleWeek) { spoil(&w.Requests[i]) }, want})
	}
	for _, name := range badNames() {
		add(" mission", api.ErrName, func(r *api.ScheduleRequest) { r.Mission = name })
	}
	l = append(l, badRanges(part+" window", mark, func(w *api.ScheduleWeek) *api.Range { return &w.Requests[i].Window })...)
	window := venusWeek().Requests[i].Window
	for _, n := range badNumbers(1, window.Hi-window.Lo+1) {
		add(" length", api.ErrRange, func(r *api.ScheduleRequest) { r.Length = n })
	}
	for _, n := range badNumbers(0, 100000) {
		add(" value", api.ErrRange, func(r *api.ScheduleRequest) { r.Value = n })
	}
	add(" antennas", api.ErrShape, func(r *api.ScheduleRequest) { r.Antennas = nil })
	for _, n := range badNumbers(0, 1) {
		add(" antennas", api.ErrMissing, func(r *api.ScheduleRequest) { r.Antennas = []int{n} })
		add(" antennas", api.ErrMissing, func(r *api.ScheduleRequest) { r.Antennas = []int{0, n} })
		add(" antennas", api.ErrMissing, func(r *api.ScheduleRequest) { r.Antennas = []int{n, 0, 0} })
	}
	add(" antennas", api.ErrOrder, func(r *api.ScheduleRequest) { r.Antennas = []int{1, 0} })
	add(" antennas", api.ErrOrder, func(r *api.ScheduleRequest) { r.Antennas = []int{0, 0} })
	add(" antennas", api.ErrOrder, func(r *api.ScheduleRequest) { r.Antennas = []int{0, 1, 1, 2} })
	for _, n := range badNumbers(1, len(venusWeek().Requests[i].Antennas)) {
		add(" need", api.ErrRange, func(r *api.ScheduleRequest) { r.Need = n })
	}
	return l
}

// largeWeek returns a week with as many parts, and as large numbers, as possible.
func largeWeek() api.ScheduleWeek {
	w := api.ScheduleWeek{Slots: 200}
	for i := range 4 {
		w.Antennas = append(w.Antennas, api.ScheduleAntenna{Name: strings.Repeat("a", 9+i), Setup: 50, Closed: []api.Range{
			within(0, 0), within(199, 199), within(10*i, 10*i), within(10*i, 10*i+5), within(100, 101), within(100, 100),
		}})
	}
	for i := range 12 {
		w.Requests = append(w.Requests, api.ScheduleRequest{
			Mission: fmt.Sprint("m", i%3), Window: within(0, 199), Length: 1 + 10*(i%4), Value: 100000, Antennas: []int{0, 1, 2, 3}, Need: 1 + i%4,
		})
	}
	w.Requests[11].Length = 200
	return w
}

// P9.1: weeks within the limits. Closed ranges may overlap, and missions may have the names of antennas.
func TestCheckWeek(t *testing.T) {
	small := openWeek(1, 1)
	small.Requests = []api.ScheduleRequest{request("a0", within(0, 0), 1, 0, 0)}
	closed := venusWeek()
	closed.Antennas[0].Closed = []api.Range{within(0, 9), within(0, 9), within(9, 9), within(3, 5), within(5, 7), within(0, 0)}
	for _, w := range []api.ScheduleWeek{exampleWeek(), venusWeek(), largeWeek(), small, closed, openWeek(200, 4), openWeek(1, 0)} {
		before := text(w)
		mark, e := schedule.CheckWeek(w)
		wantValue(t, w, mark, e, api.ScheduleMark{List: api.ScheduleItself})
		wantSame(t, w, before)
	}
}

// P9.1: the errors of weeks, in their order, with the mark.
func TestCheckWeekErrors(t *testing.T) {
	eachFault(venusWeek(), cloneWeek, weekFaults(), func(w api.ScheduleWeek, f weekFault) {
		mark, e := schedule.CheckWeek(w)
		wantError(t, w, e, f.want)
		if mark != f.at {
			t.Error(w, mark, f.at)
		}
	})
	if mark, e := schedule.CheckWeek(api.ScheduleWeek{}); e != api.ErrRange || mark != (api.ScheduleMark{}) {
		t.Error(mark, e)
	}
}

// P9.2 to P9.7: the errors of weeks come before all others, and there are no results beside them.
func TestWeekErrors(t *testing.T) {
	bad := []api.SchedulePass{pass(-1, -1, -1)}
	eachFault(venusWeek(), cloneWeek, weekFaults(), func(w api.ScheduleWeek, f weekFault) {
		for _, p := range [][]api.SchedulePass{nil, bad} {
			i, e := schedule.CheckPlan(w, p)
			wantNoValue(t, w, i, e, f.want)
			value, e := schedule.ValueOf(w, p)
			wantNoValue(t, w, value, e, f.want)
			placements, e := schedule.Placements(w, p, -1)
			wantNoSlice(t, w, placements, e, f.want)
			free, e := schedule.FreeOf(w, p, -1)
			wantNoSlice(t, w, free, e, f.want)
			load, e := schedule.LoadOf(w, p, -1)
			wantNoValue(t, w, load, e, f.want)
			share, e := schedule.ShareOf(w, p, "")
			wantNoValue(t, w, share, e, f.want)
			missions, e := schedule.ToTell(w, api.SchedulePlans{Old: p, New: bad})
			wantNoSlice(t, w, missions, e, f.want)
			included, e := schedule.Included(w, p, -1)
			wantNoSlice(t, w, included, e, f.want)
		}
		greedy, e := schedule.Greedy(w)
		wantNoSlice(t, w, greedy, e, f.want)
		best, value, e := schedule.Best(w)
		wantNoSlice(t, w, best, e, f.want)
		wantValue(t, w, value, api.OK, 0)
		bound, e := schedule.BoundOf(w, nil)
		wantNoValue(t, w, bound, e, f.want)
		prices, bound, e := schedule.UniformPrices(w)
		wantNoSlice(t, w, prices, e, f.want)
		wantValue(t, w, bound, api.OK, 0)
		together, e := schedule.Together(w, []int{-1})
		wantNoValue(t, w, together, e, f.want)
		conflict, e := schedule.MinimumConflict(w)
		wantNoSlice(t, w, conflict, e, f.want)
	})
}

// smallestLargeWeeks returns weeks that are just not small, and have no other error.
func smallestLargeWeeks() []api.ScheduleWeek {
	many := openWeek(10, 1)
	for range 7 {
		many.Requests = append(many.Requests, request("mars", within(0, 0), 1, 1, 0))
	}
	long := openWeek(200, 1)
	long.Requests = []api.ScheduleRequest{request("mars", within(3, 3), 1, 1, 0), request("mars", within(2, 10), 1, 1, 0)}
	longer := openWeek(200, 1)
	longer.Requests = []api.ScheduleRequest{request("mars", within(0, 199), 192, 1, 0)}
	closed := openWeek(200, 1) // no pass is possible, but there are starts
	closed.Antennas[0].Closed = []api.Range{within(0, 199)}
	closed.Requests = []api.ScheduleRequest{request("mars", within(0, 8), 1, 1, 0)}
	return []api.ScheduleWeek{many, long, longer, closed, largeWeek()}
}

// P9.4 to P9.6: weeks that are searched must be small; this is checked before plans and requests are.
func TestSmallWeeks(t *testing.T) {
	bad := []api.SchedulePass{pass(-1, -1, -1)}
	for _, w := range smallestLargeWeeks() {
		best, value, e := schedule.Best(w)
		wantNoSlice(t, w, best, e, api.ErrLarge)
		wantValue(t, w, value, api.OK, 0)
		for _, requests := range [][]int{nil, {0}, {-1}} {
			together, e := schedule.Together(w, requests)
			wantNoValue(t, w, together, e, api.ErrLarge)
		}
		conflict, e := schedule.MinimumConflict(w)
		wantNoSlice(t, w, conflict, e, api.ErrLarge)
		included, e := schedule.Included(w, bad, -1)
		wantNoSlice(t, w, included, e, api.ErrLarge)
		included, e = schedule.Included(w, nil, 0)
		wantNoSlice(t, w, included, e, api.ErrLarge)
		_, e = schedule.Greedy(w) // as all functions that do not search
		wantError(t, w, e, api.OK)
		_, e = schedule.Placements(w, nil, 0)
		wantError(t, w, e, api.OK)
		_, e = schedule.ToTell(w, api.SchedulePlans{})
		wantError(t, w, e, api.OK)
		_, _, e = schedule.UniformPrices(w)
		wantError(t, w, e, api.OK)
	}
	w := openWeek(200, 4) // the largest small week
	for i := range 6 {
		w.Requests = append(w.Requests, api.ScheduleRequest{Mission: "mars", Window: within(0, 199), Length: 193, Value: 100000, Antennas: []int{0, 1, 2, 3}, Need: 1 + i%2})
	}
	_, value, e := schedule.Best(w)
	wantValue(t, w, value, e, 300000)
	conflict, e := schedule.MinimumConflict(w)
	wantSlice(t, w, conflict, e, []int{0, 1, 3})
}
