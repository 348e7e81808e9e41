package schedule_test

import (
	"cmp"
	"fmt"
	"math"
	"math/rand"
	"slices"
	"testing"

	"cassegrain/api"
	"cassegrain/schedule"
)

// The tests compare the package with the definitions of the chapter, which this file computes slowly: slot by slot, and from the list of all plans of a week.

// wantError reports an error that differs from the wanted one.
func wantError(t *testing.T, what any, got, want api.Errno) {
	t.Helper()
	if got != want {
		t.Errorf("%v: error %d, want %d", what, got, want)
	}
}

// wantValue reports a value or an error that differs from the wanted one.
func wantValue[T comparable](t *testing.T, what any, got T, e api.Errno, want T) {
	t.Helper()
	wantError(t, what, e, api.OK)
	if got != want {
		t.Errorf("%v: %v, want %v", what, got, want)
	}
}

// wantNoValue reports an error that differs from the wanted one, and a value beside it that is not its zero value.
func wantNoValue[T comparable](t *testing.T, what any, got T, e, want api.Errno) {
	t.Helper()
	wantError(t, what, e, want)
	if zero := *new(T); got != zero {
		t.Errorf("%v: %v beside an error", what, got)
	}
}

// wantSlice reports a slice or an error that differs from the wanted one; a nil slice is an empty one.
func wantSlice[T comparable](t *testing.T, what any, got []T, e api.Errno, want []T) {
	t.Helper()
	wantError(t, what, e, api.OK)
	if !slices.Equal(got, want) {
		t.Errorf("%v: %v, want %v", what, got, want)
	}
}

// wantNoSlice reports an error that differs from the wanted one, and items beside it.
func wantNoSlice[T any](t *testing.T, what any, got []T, e, want api.Errno) {
	t.Helper()
	wantError(t, what, e, want)
	if len(got) != 0 {
		t.Errorf("%v: %v beside an error", what, got)
	}
}

// text returns a string that is equal for equal values; a nil slice is an empty one.
func text(x any) string {
	return fmt.Sprintf("%+v", x)
}

// wantPasses reports passes or an error that differ from the wanted ones.
func wantPasses(t *testing.T, what any, got []api.SchedulePass, e api.Errno, want []api.SchedulePass) {
	t.Helper()
	wantError(t, what, e, api.OK)
	if text(got) != text(want) {
		t.Errorf("%v: %v, want %v", what, got, want)
	}
}

// wantSame reports an argument that was modified.
func wantSame(t *testing.T, now any, before string) {
	t.Helper()
	if text(now) != before {
		t.Errorf("%v was modified: %v", before, now)
	}
}

// wantApart reports passes that share memory, and overwrites them, so that arguments which share it are modified.
func wantApart(t *testing.T, what any, p []api.SchedulePass) {
	t.Helper()
	before := text(p)
	for i, x := range p {
		for j := range x.Antennas {
			x.Antennas[j] = -1 - i
		}
	}
	for i, x := range p {
		if slices.ContainsFunc(x.Antennas, func(antenna int) bool { return antenna != -1-i }) {
			t.Errorf("%v: passes share memory: %v", what, before)
		}
		p[i] = api.SchedulePass{Request: -1, Start: -1}
	}
}

// between returns a random number from lo to hi.
func between(r *rand.Rand, lo, hi int) int {
	return lo + r.Intn(hi-lo+1)
}

// badNumbers returns numbers that are not from lo to hi.
func badNumbers(lo, hi int) []int {
	return []int{math.MinInt, lo - 1000, lo - 1, hi + 1, hi + 1000, math.MaxInt}
}

// within returns a range.
func within(lo, hi int) api.Range {
	return api.Range{Lo: lo, Hi: hi}
}

// exampleWeek returns the week of the examples.
func exampleWeek() api.ScheduleWeek {
	return api.ScheduleWeek{
		Slots: 10,
		Antennas: []api.ScheduleAntenna{
			{Name: "a", Setup: 1, Closed: []api.Range{within(4, 4)}},
			{Name: "b"},
		},
		Requests: []api.ScheduleRequest{
			{Mission: "mars", Window: within(0, 5), Length: 3, Value: 10, Antennas: []int{0}, Need: 1},
			{Mission: "moon", Window: within(0, 4), Length: 2, Value: 7, Antennas: []int{0, 1}, Need: 1},
			{Mission: "mars", Window: within(0, 9), Length: 4, Value: 6, Antennas: []int{0, 1}, Need: 2},
		},
	}
}

// venusWeek returns the week of example 5.
func venusWeek() api.ScheduleWeek {
	w := exampleWeek()
	w.Requests = append(w.Requests, api.ScheduleRequest{Mission: "venus", Window: within(5, 9), Length: 4, Value: 9, Antennas: []int{0, 1}, Need: 2})
	return w
}

// openWeek returns a week with so many slots, and antennas without set-up time that are never closed.
func openWeek(slots, antennas int) api.ScheduleWeek {
	w := api.ScheduleWeek{Slots: slots}
	for i := range antennas {
		w.Antennas = append(w.Antennas, api.ScheduleAntenna{Name: fmt.Sprint("a", i)})
	}
	return w
}

// request returns a request of one antenna of some.
func request(mission string, window api.Range, length, value int, antennas ...int) api.ScheduleRequest {
	return api.ScheduleRequest{Mission: mission, Window: window, Length: length, Value: value, Antennas: antennas, Need: 1}
}

// pass returns a pass.
func pass(request, start int, antennas ...int) api.SchedulePass {
	return api.SchedulePass{Request: request, Start: start, Antennas: antennas}
}

// planOf returns the plan with a string, which must have one.
func planOf(t *testing.T, s string) []api.SchedulePass {
	t.Helper()
	p, e := schedule.ParsePlan(s)
	wantError(t, s, e, api.OK)
	return p
}

func cloneWeek(w api.ScheduleWeek) api.ScheduleWeek {
	w.Antennas, w.Requests = slices.Clone(w.Antennas), slices.Clone(w.Requests)
	for i, a := range w.Antennas {
		w.Antennas[i].Closed = slices.Clone(a.Closed)
	}
	for i, r := range w.Requests {
		w.Requests[i].Antennas = slices.Clone(r.Antennas)
	}
	return w
}

func clonePlan(p []api.SchedulePass) []api.SchedulePass {
	p = slices.Clone(p)
	for i, x := range p {
		p[i].Antennas = slices.Clone(x.Antennas)
	}
	return p
}

// occupiesByDefinition says whether a pass occupies an antenna in a slot.
func occupiesByDefinition(w api.ScheduleWeek, x api.SchedulePass, antenna, slot int) bool {
	return slices.Contains(x.Antennas, antenna) && x.Start <= slot && slot < x.Start+w.Requests[x.Request].Length
}

// closedByDefinition says whether an antenna is closed in a slot.
func closedByDefinition(w api.ScheduleWeek, antenna, slot int) bool {
	for _, r := range w.Antennas[antenna].Closed {
		if r.Lo <= slot && slot <= r.Hi {
			return true
		}
	}
	return false
}

// possibleByDefinition says whether a pass of a request that exists is possible.
func possibleByDefinition(w api.ScheduleWeek, x api.SchedulePass) bool {
	r := w.Requests[x.Request]
	if x.Start < r.Window.Lo || x.Start+r.Length-1 > r.Window.Hi || len(x.Antennas) != r.Need {
		return false
	}
	for i, antenna := range x.Antennas {
		if !slices.Contains(r.Antennas, antenna) || i > 0 && antenna <= x.Antennas[i-1] {
			return false
		}
		for slot := x.Start; slot < x.Start+r.Length; slot++ {
			if closedByDefinition(w, antenna, slot) {
				return false
			}
		}
	}
	return true
}

// conflictByDefinition says whether two possible passes conflict.
func conflictByDefinition(w api.ScheduleWeek, x, y api.SchedulePass) bool {
	if x.Request == y.Request {
		return true
	}
	if y.Start < x.Start {
		x, y = y, x
	}
	for antenna, a := range w.Antennas {
		if !slices.Contains(x.Antennas, antenna) || !slices.Contains(y.Antennas, antenna) {
			continue
		}
		between := 0
		for slot := range w.Slots {
			if occupiesByDefinition(w, x, antenna, slot) && occupiesByDefinition(w, y, antenna, slot) {
				return true
			}
			if slot >= x.Start+w.Requests[x.Request].Length && slot < y.Start {
				between++
			}
		}
		if between < a.Setup && w.Requests[x.Request].Mission != w.Requests[y.Request].Mission {
			return true
		}
	}
	return false
}

// fitsByDefinition says whether a pass conflicts with none of others.
func fitsByDefinition(w api.ScheduleWeek, x api.SchedulePass, p []api.SchedulePass) bool {
	for _, y := range p {
		if conflictByDefinition(w, x, y) {
			return false
		}
	}
	return true
}

// comparePasses compares by Request, then by the order of passes.
func comparePasses(x, y api.SchedulePass) int {
	return cmp.Or(cmp.Compare(x.Request, y.Request), cmp.Compare(x.Start, y.Start), slices.Compare(x.Antennas, y.Antennas))
}

// comparePlans compares by the order of plans.
func comparePlans(p, q []api.SchedulePass) int {
	return slices.CompareFunc(p, q, comparePasses)
}

// possiblePasses returns all possible passes of a request, in their order.
func possiblePasses(w api.ScheduleWeek, request int) []api.SchedulePass {
	var l []api.SchedulePass
	for start := range w.Slots {
		for set := range 1 << len(w.Antennas) {
			x := api.SchedulePass{Request: request, Start: start}
			for antenna := range w.Antennas {
				if set>>antenna&1 == 1 {
					x.Antennas = append(x.Antennas, antenna)
				}
			}
			if possibleByDefinition(w, x) {
				l = append(l, x)
			}
		}
	}
	slices.SortFunc(l, comparePasses)
	return l
}

// placementsByDefinition returns the possible passes of a request that conflict with no pass of a plan.
func placementsByDefinition(w api.ScheduleWeek, p []api.SchedulePass, request int) []api.SchedulePass {
	return slices.DeleteFunc(possiblePasses(w, request), func(x api.SchedulePass) bool { return !fitsByDefinition(w, x, p) })
}

// allPlans returns all plans of a week, in their order.
func allPlans(w api.ScheduleWeek) [][]api.SchedulePass {
	plans := [][]api.SchedulePass{nil}
	for request := range w.Requests {
		possible := possiblePasses(w, request)
		for _, p := range slices.Clone(plans) {
			for _, x := range possible {
				if fitsByDefinition(w, x, p) {
					plans = append(plans, append(slices.Clone(p), x))
				}
			}
		}
	}
	slices.SortFunc(plans, comparePlans)
	return plans
}

// isPlanByDefinition says whether passes of requests that exist are a plan.
func isPlanByDefinition(w api.ScheduleWeek, p []api.SchedulePass) bool {
	for i, x := range p {
		if i > 0 && x.Request <= p[i-1].Request || !possibleByDefinition(w, x) || !fitsByDefinition(w, x, p[:i]) {
			return false
		}
	}
	return true
}

// valueByDefinition returns the value of a plan.
func valueByDefinition(w api.ScheduleWeek, p []api.SchedulePass) int {
	value := 0
	for _, x := range p {
		value += w.Requests[x.Request].Value
	}
	return value
}

// passOf returns the pass of a request in a plan, if there is one.
func passOf(p []api.SchedulePass, request int) (api.SchedulePass, bool) {
	for _, x := range p {
		if x.Request == request {
			return x, true
		}
	}
	return api.SchedulePass{}, false
}

// changedByDefinition returns the requests that are changed between two plans.
func changedByDefinition(w api.ScheduleWeek, p, q []api.SchedulePass) []int {
	var changed []int
	for request := range w.Requests {
		x, inP := passOf(p, request)
		y, inQ := passOf(q, request)
		if inP != inQ || inP && inQ && comparePasses(x, y) != 0 {
			changed = append(changed, request)
		}
	}
	return changed
}

// includedByDefinition returns the plan of some in their order that includes a request.
func includedByDefinition(w api.ScheduleWeek, plans [][]api.SchedulePass, p []api.SchedulePass, request int) ([]api.SchedulePass, bool) {
	var best []api.SchedulePass
	found := false
	for _, q := range plans {
		if _, ok := passOf(q, request); !ok {
			continue
		}
		changes, least := len(changedByDefinition(w, p, q)), len(changedByDefinition(w, p, best))
		if !found || changes < least || changes == least && valueByDefinition(w, q) > valueByDefinition(w, best) {
			best, found = q, true
		}
	}
	return best, found
}

// togetherByDefinition says whether one of some plans has a pass of each of some requests.
func togetherByDefinition(plans [][]api.SchedulePass, requests []int) bool {
	return slices.ContainsFunc(plans, func(p []api.SchedulePass) bool {
		return !slices.ContainsFunc(requests, func(request int) bool {
			_, ok := passOf(p, request)
			return !ok
		})
	})
}

// setsOf returns all sets of the indexes below count, by their size, then in lexicographic order.
func setsOf(count int) [][]int {
	var sets [][]int
	for mask := range 1 << count {
		var set []int
		for i := range count {
			if mask>>i&1 == 1 {
				set = append(set, i)
			}
		}
		sets = append(sets, set)
	}
	slices.SortFunc(sets, func(a, b []int) int { return cmp.Or(cmp.Compare(len(a), len(b)), slices.Compare(a, b)) })
	return sets
}

// randomWeek returns a random week with so many requests, whose values are often equal or 0.
func randomWeek(r *rand.Rand, slots, requests int) api.ScheduleWeek {
	w := openWeek(slots, between(r, 1, 3))
	for i := range w.Antennas {
		w.Antennas[i].Setup = r.Intn(4)
		for range r.Intn(3) {
			lo := r.Intn(slots)
			w.Antennas[i].Closed = append(w.Antennas[i].Closed, within(lo, min(slots-1, lo+r.Intn(2))))
		}
	}
	for range requests {
		lo := r.Intn(slots)
		hi := min(slots-1, between(r, lo, lo+7))
		x := api.ScheduleRequest{
			Mission: []string{"mars", "moon", "venus"}[r.Intn(3)], Window: within(lo, hi), Length: min(between(r, 1, 5), hi-lo+1), Value: r.Intn(4),
		}
		x.Antennas = r.Perm(len(w.Antennas))[:between(r, 1, len(w.Antennas))]
		slices.Sort(x.Antennas)
		x.Need = between(r, 1, len(x.Antennas))
		w.Requests = append(w.Requests, x)
	}
	return w
}

// randomSmallWeek returns a random week with few plans, and all of them, in their order.
func randomSmallWeek(r *rand.Rand) (api.ScheduleWeek, [][]api.SchedulePass) {
	for {
		w := randomWeek(r, between(r, 4, 12), between(r, 0, 5))
		count := 1
		for request := range w.Requests {
			count *= 1 + len(possiblePasses(w, request))
		}
		if count <= 3000 {
			return w, allPlans(w)
		}
	}
}

// fault is a change of a part of something valid, and the error that it makes, with the mark or the index.
type fault[T, M any] struct {
	part  string
	at    M
	spoil func(*T)
	want  api.Errno
}

// independent says whether two faults change different parts, none of which contains the other one.
func (f fault[T, M]) independent(g fault[T, M]) bool {
	n := min(len(f.part), len(g.part))
	return f.part[:n] != g.part[:n]
}

// eachFault tries each fault alone, and with each later one, whose error is not returned.
func eachFault[T, M any](good T, clone func(T) T, faults []fault[T, M], try func(bad T, f fault[T, M])) {
	for i, f := range faults {
		bad := clone(good)
		f.spoil(&bad)
		try(bad, f)
		for _, g := range faults[i+1:] {
			if f.independent(g) {
				bad := clone(good)
				f.spoil(&bad)
				g.spoil(&bad)
				try(bad, f)
			}
		}
	}
}
