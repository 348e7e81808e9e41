package schedule_test

import (
	"math/rand"
	"slices"
	"testing"

	"cassegrain/api"
	"cassegrain/schedule"
)

// equalWeek returns a week with requests of one mission, all with the same window, length and antenna, and with these values.
func equalWeek(slots, length int, values ...int) api.ScheduleWeek {
	w := openWeek(slots, 1)
	for _, value := range values {
		w.Requests = append(w.Requests, request("mars", within(0, slots-1), length, value, 0))
	}
	return w
}

// P9.4: examples 3 and 5, plans with the same value, and requests of value 0.
func TestBest(t *testing.T) {
	split := openWeek(8, 1) // the pass of 0, which is granted first otherwise, leaves no room for both others
	split.Requests = []api.ScheduleRequest{request("mars", within(1, 6), 4, 9, 0), request("moon", within(0, 3), 4, 5, 0), request("moon", within(4, 7), 4, 5, 0)}
	even := split
	even.Requests = slices.Clone(split.Requests)
	even.Requests[0].Value = 10 // now both plans have the same value
	array := openWeek(4, 3)
	array.Requests = []api.ScheduleRequest{
		{Mission: "mars", Window: within(0, 3), Length: 3, Value: 4, Antennas: []int{0, 1, 2}, Need: 2},
		{Mission: "mars", Window: within(0, 3), Length: 3, Value: 3, Antennas: []int{0, 1, 2}, Need: 2},
		request("mars", within(0, 3), 3, 2, 0),
	}
	for _, c := range []struct {
		week  api.ScheduleWeek
		want  string
		value int
	}{
		{exampleWeek(), "0@0+0 1@0+1 2@5+0+1", 23},
		{venusWeek(), "0@0+0 1@0+1 3@5+0+1", 26},
		{split, "1@0+0 2@4+0", 10},
		{even, "0@1+0", 10},
		{array, "0@0+1+2 2@0+0", 6},
		{openWeek(5, 3), "", 0},
		{equalWeek(1, 1, 0), "", 0},               // the empty plan is the beginning of all others
		{equalWeek(2, 1, 5, 0), "0@0+0", 5},       // the plan that ends comes first
		{equalWeek(2, 1, 0, 5), "0@0+0 1@1+0", 5}, // 0 comes before 1
		{equalWeek(3, 1, 0, 0, 5), "0@0+0 1@1+0 2@2+0", 5},
		{equalWeek(2, 1, 0, 0, 5), "0@0+0 2@1+0", 5},
		{equalWeek(3, 1, 0, 5, 0), "0@0+0 1@1+0", 5},
		{equalWeek(3, 2, 0, 5), "1@0+0", 5}, // no room for both
		{equalWeek(2, 1, 7, 7, 7), "0@0+0 1@1+0", 14},
	} {
		before := text(c.week)
		p, value, e := schedule.Best(c.week)
		wantValue(t, c, value, e, c.value)
		wantPasses(t, c, p, e, planOf(t, c.want))
		wantApart(t, c, p)
		wantSame(t, c.week, before)
	}
}

// P9.4, P9.9, P9.12: the best plans of random weeks. As values are often equal or 0, there are several ones.
func TestBestRandomly(t *testing.T) {
	r := rand.New(rand.NewSource(6))
	several := 0
	for range 600 {
		w, plans := randomSmallWeek(r)
		var best []api.SchedulePass
		equal, sum := 0, 0
		for _, p := range plans { // in their order
			if valueByDefinition(w, p) > valueByDefinition(w, best) {
				best, equal = p, 0
			}
			if valueByDefinition(w, p) == valueByDefinition(w, best) {
				equal++
			}
		}
		if equal > 1 {
			several++
		}
		p, value, e := schedule.Best(w)
		wantPasses(t, w, p, e, best)
		wantValue(t, w, value, e, valueByDefinition(w, best))
		_, e = schedule.CheckPlan(w, p)
		wantError(t, w, e, api.OK)
		for _, x := range w.Requests {
			sum += x.Value
		}
		if togetherByDefinition(plans, setsOf(len(w.Requests))[1<<len(w.Requests)-1]) && value != sum {
			t.Error(w, value, sum)
		}
	}
	if several < 300 {
		t.Error("few weeks with several best plans:", several)
	}
}

// P9.5: example 5, and no requests.
func TestTogether(t *testing.T) {
	w := venusWeek()
	for _, set := range setsOf(4) {
		before := text(w)
		has := func(request int) bool { return slices.Contains(set, request) }
		want := !has(2) || !has(3) || !has(0) && !has(1) // 2 meets 3, or else both others
		together, e := schedule.Together(w, set)
		wantValue(t, set, together, e, want)
		wantSame(t, w, before)
	}
	together, e := schedule.Together(openWeek(1, 0), nil)
	wantValue(t, "no requests", together, e, true)
	w.Antennas[0].Closed = append(w.Antennas[0].Closed, within(0, 9))
	for request, want := range []bool{false, true, false, false} {
		together, e := schedule.Together(w, []int{request})
		wantValue(t, request, together, e, want)
	}
}

// P9.5: the errors of requests, in their order.
func TestTogetherErrors(t *testing.T) {
	w := venusWeek()
	fails := func(want api.Errno, requests ...int) {
		t.Helper()
		together, e := schedule.Together(w, requests)
		wantNoValue(t, requests, together, e, want)
	}
	for _, n := range badNumbers(0, 3) {
		fails(api.ErrMissing, n)
		fails(api.ErrMissing, 0, n)
		fails(api.ErrMissing, n, 0)
		fails(api.ErrMissing, 0, 1, n, n)
		fails(api.ErrOrder, 0, 0, n)
	}
	fails(api.ErrOrder, 0, 0)
	fails(api.ErrOrder, 3, 2)
	fails(api.ErrOrder, 0, 1, 3, 2)
	fails(api.ErrOrder, 0, 1, 2, 3, 3)
}

// P9.5: example 5, a request without a possible pass, and several conflicts.
func TestMinimumConflict(t *testing.T) {
	impossible := venusWeek()
	impossible.Requests[1].Antennas = []int{0}
	impossible.Requests[1].Window = within(3, 5)
	pairs := openWeek(10, 1)
	for i := range 6 {
		pairs.Requests = append(pairs.Requests, request("mars", within(i, i+2), 3, 0, 0))
	}
	for _, c := range []struct {
		week api.ScheduleWeek
		want []int
	}{
		{venusWeek(), []int{0, 2, 3}},
		{impossible, []int{1}},
		{pairs, []int{0, 1}},
		{equalWeek(4, 1, 0, 0, 0, 0, 0), []int{0, 1, 2, 3, 4}},
		{equalWeek(5, 1, 1, 1, 1, 1, 1, 1), []int{0, 1, 2, 3, 4, 5}},
	} {
		before := text(c.week)
		set, e := schedule.MinimumConflict(c.week)
		wantSlice(t, c, set, e, c.want)
		wantSame(t, c.week, before)
	}
	for _, w := range []api.ScheduleWeek{exampleWeek(), openWeek(5, 0), equalWeek(6, 1, 0, 0, 0, 0, 0, 0)} {
		set, e := schedule.MinimumConflict(w)
		wantNoSlice(t, w, set, e, api.ErrNone)
	}
}

// P9.5, P9.12: sets of requests of random weeks, and the minimum conflict, any part of which can be granted.
func TestConflictsRandomly(t *testing.T) {
	r := rand.New(rand.NewSource(7))
	sizes := map[int]int{}
	for range 500 {
		w, plans := randomSmallWeek(r)
		var want []int
		for _, set := range setsOf(len(w.Requests)) {
			can := togetherByDefinition(plans, set)
			together, e := schedule.Together(w, set)
			wantValue(t, set, together, e, can)
			if !can && want == nil {
				want = set
			}
		}
		sizes[len(want)]++
		set, e := schedule.MinimumConflict(w)
		if want == nil {
			wantNoSlice(t, w, set, e, api.ErrNone)
			continue
		}
		wantSlice(t, w, set, e, want)
		for i := range set {
			together, e := schedule.Together(w, slices.Delete(slices.Clone(set), i, i+1))
			wantValue(t, set, together, e, true)
		}
	}
	if min(sizes[0], sizes[1], sizes[2], sizes[3]) < 10 {
		t.Error(sizes)
	}
}

// P9.6: example 6, plans that have the request, and passes that must move or be dropped.
func TestIncluded(t *testing.T) {
	single := venusWeek() // 2 needs one antenna alone
	single.Requests[2].Need = 1
	early := openWeek(4, 1) // 1 must be at 0
	early.Requests = []api.ScheduleRequest{request("mars", within(0, 3), 1, 0, 0), request("moon", within(0, 0), 1, 5, 0)}
	late := openWeek(4, 1) // as before, in the other order
	late.Requests = []api.ScheduleRequest{early.Requests[1], early.Requests[0]}
	for _, c := range []struct {
		week    api.ScheduleWeek
		plan    string
		request int
		want    string
	}{
		{venusWeek(), "0@0+0 1@0+1 2@5+0+1", 3, "0@0+0 1@0+1 3@5+0+1"},
		{venusWeek(), "0@1+0 1@3+1 2@6+0+1", 2, "0@1+0 1@3+1 2@6+0+1"}, // no change, though 0 could be earlier
		{venusWeek(), "2@6+0+1", 2, "2@6+0+1"},                         // though others could be added
		{venusWeek(), "", 1, "1@0+0"},
		{venusWeek(), "0@0+0", 1, "0@0+0 1@0+1"},
		{venusWeek(), "0@0+0 1@0+1 3@6+0+1", 2, "0@0+0 1@0+1 2@5+0+1"},
		{venusWeek(), "1@3+1 3@6+0+1", 0, "0@0+0 1@3+1 3@6+0+1"},
		{single, "0@0+0 1@0+1 2@5+1", 3, "0@0+0 1@0+1 2@2+1 3@6+0+1"}, // to move 2 is no more of a change than to drop it
		{single, "0@0+0 2@5+1", 3, "0@0+0 2@0+1 3@5+0+1"},
		{equalWeek(3, 1, 5, 0, 0, 0), "0@0+0 1@1+0 2@2+0", 3, "0@0+0 1@1+0 3@2+0"}, // the value counts, and then the order
		{early, "0@0+0", 1, "0@1+0 1@0+0"},                                         // a pass of value 0 is moved if this comes first
		{late, "1@0+0", 0, "0@0+0"},
		{late, "1@3+0", 0, "0@0+0 1@3+0"},
	} {
		p := planOf(t, c.plan)
		beforeWeek, beforePlan := text(c.week), text(p)
		included, e := schedule.Included(c.week, p, c.request)
		wantPasses(t, c, included, e, planOf(t, c.want))
		wantApart(t, c, included)
		wantSame(t, c.week, beforeWeek)
		wantSame(t, p, beforePlan)
	}
}

// P9.6: requests that do not exist, and such as no plan has a pass of.
func TestIncludedErrors(t *testing.T) {
	w := venusWeek()
	w.Requests = append(w.Requests, request("mars", within(2, 6), 5, 100, 0), request("mars", within(4, 4), 1, 100, 0))
	for _, p := range [][]api.SchedulePass{nil, examplePlan()} {
		for _, n := range badNumbers(0, 5) {
			included, e := schedule.Included(w, p, n)
			wantNoSlice(t, n, included, e, api.ErrMissing)
		}
		for n := range 6 {
			_, e := schedule.Included(w, p, n)
			want := api.OK
			if n >= 4 {
				want = api.ErrNone
			}
			wantError(t, n, e, want)
		}
	}
	included, e := schedule.Included(openWeek(1, 0), nil, 0)
	wantNoSlice(t, "no requests", included, e, api.ErrMissing)
}

// P9.6, P9.9, P9.11: requests that are included in plans of random weeks.
func TestIncludedRandomly(t *testing.T) {
	r := rand.New(rand.NewSource(8))
	changes := map[int]int{}
	for range 400 {
		w, plans := randomSmallWeek(r)
		for range 5 {
			p := plans[r.Intn(len(plans))]
			if r.Intn(2) == 0 {
				p, _ = schedule.Greedy(w)
			}
			for request := range w.Requests {
				included, e := schedule.Included(w, p, request)
				want, ok := includedByDefinition(w, plans, p, request)
				if !ok {
					wantNoSlice(t, w, included, e, api.ErrNone)
					continue
				}
				wantPasses(t, w, included, e, want)
				_, e = schedule.CheckPlan(w, included)
				wantError(t, w, e, api.OK)
				count := len(changedByDefinition(w, p, included))
				if _, ok := passOf(p, request); ok && count > 0 {
					t.Error(w, p, request, included)
				}
				changes[count]++
			}
		}
	}
	if min(changes[0], changes[1], changes[2], changes[3]) < 20 {
		t.Error(changes)
	}
}

// P9.6: the greatest values are less important than a change.
func TestIncludedValues(t *testing.T) {
	w := openWeek(20, 1)
	w.Requests = []api.ScheduleRequest{request("mars", within(2, 3), 1, 0, 0)} // it is the only one that is granted
	for i := range 4 {
		w.Requests = append(w.Requests, request("mars", within(4*i, 4*i+3), 4, 100000, 0))
	}
	w.Requests = append(w.Requests, request("mars", within(4, 11), 8, 0, 0))
	for _, c := range []struct {
		plan, want string
		request    int
	}{
		{"0@2+0", "0@2+0 5@4+0", 5},
		{"0@2+0", "0@2+0 2@4+0", 2},
		{"0@2+0", "1@0+0", 1}, // to drop 0 is a change, and no other request is added
		{"1@0+0 2@4+0 3@8+0 4@12+0", "1@0+0 4@12+0 5@4+0", 5},
		{"1@0+0 2@4+0 3@8+0 4@12+0", "0@2+0 2@4+0 3@8+0 4@12+0", 0},
	} {
		included, e := schedule.Included(w, planOf(t, c.plan), c.request)
		wantPasses(t, c, included, e, planOf(t, c.want))
	}
}

// P9.4 to P9.6: a search also ends soon where there are many millions of plans, but three of the requests cannot be granted together, which concerns no others.
func TestManyPlans(t *testing.T) {
	w := openWeek(200, 4)
	for i := range 6 {
		w.Requests = append(w.Requests, request("mars", within(0, 26), 20, 1, 0, 1))
		if 1 <= i && i <= 3 {
			w.Requests[i] = api.ScheduleRequest{Mission: "moon", Window: within(40*i, 40*i+7), Length: 1, Value: 1, Antennas: []int{0, 1, 2, 3}, Need: 2}
		}
	}
	want := planOf(t, "0@0+0 1@40+0+1 2@80+0+1 3@120+0+1 4@0+1")
	best, value, e := schedule.Best(w)
	wantPasses(t, w, best, e, want)
	wantValue(t, w, value, e, 5)
	for _, set := range setsOf(6) {
		together, e := schedule.Together(w, set)
		wantValue(t, set, together, e, !(slices.Contains(set, 0) && slices.Contains(set, 4) && slices.Contains(set, 5)))
	}
	conflict, e := schedule.MinimumConflict(w)
	wantSlice(t, w, conflict, e, []int{0, 4, 5})
	included, e := schedule.Included(w, want, 5)
	wantPasses(t, w, included, e, planOf(t, "0@0+0 1@40+0+1 2@80+0+1 3@120+0+1 5@0+1"))
}
