package schedule_test

import (
	"fmt"
	"math"
	"math/rand"
	"slices"
	"testing"

	"cassegrain/api"
	"cassegrain/schedule"
)

type planFault = fault[[]api.SchedulePass, int]

// examplePlan returns the plan of example 2.
func examplePlan() []api.SchedulePass {
	return []api.SchedulePass{pass(0, 0, 0), pass(1, 0, 1), pass(2, 5, 0, 1)}
}

// passFaults returns the faults of a pass of the plan of example 2 in the week of example 5, in the order in which they are checked.
func passFaults(i int) []planFault {
	var l []planFault
	add := func(part string, want api.Errno, spoil func(*api.SchedulePass)) {
		l = append(l, planFault{fmt.Sprint(i, part), i, func(p *[]api.SchedulePass) { spoil(&(*p)[i]) }, want})
	}
	for _, n := range badNumbers(0, 3) {
		add(" request", api.ErrMissing, func(x *api.SchedulePass) { x.Request = n })
	}
	for n := range i { // as the one before, or less
		add(" request", api.ErrOrder, func(x *api.SchedulePass) { x.Request = n })
	}
	for _, n := range badNumbers(0, []int{3, 3, 6}[i]) {
		add(" start", api.ErrRange, func(x *api.SchedulePass) { x.Start = n })
	}
	add(" antennas", api.ErrShape, func(x *api.SchedulePass) { x.Antennas = nil })
	add(" antennas", api.ErrShape, func(x *api.SchedulePass) { x.Antennas = []int{-1, 0, 1} })
	add(" antennas", api.ErrShape, func(x *api.SchedulePass) { x.Antennas = make([]int, 1000) })
	for _, n := range badNumbers(0, []int{0, 1, 1}[i]) {
		add(" antennas", api.ErrMissing, func(x *api.SchedulePass) { x.Antennas[0] = n })
		add(" antennas", api.ErrMissing, func(x *api.SchedulePass) { x.Antennas[len(x.Antennas)-1] = n })
	}
	if i < 2 {
		return l
	}
	add(" antennas", api.ErrOrder, func(x *api.SchedulePass) { x.Antennas = []int{1, 0} })
	add(" antennas", api.ErrOrder, func(x *api.SchedulePass) { x.Antennas = []int{1, 1} })
	add(" antennas", api.ErrMissing, func(x *api.SchedulePass) { x.Antennas = []int{2, 1} })
	for start := 1; start < 5; start++ {
		add(" start", api.ErrState, func(x *api.SchedulePass) { x.Start = start })
	}
	return append(l, planFault{"", 2, func(p *[]api.SchedulePass) { (*p)[2].Start = 0 }, api.ErrClash})
}

// planFaults returns the faults of the plan of example 2, in the order in which they are checked.
func planFaults() []planFault {
	l := passFaults(0)
	for start := 2; start <= 3; start++ { // the slot 4 of the antenna is closed
		l = append(l, planFault{"0 start", 0, func(p *[]api.SchedulePass) { (*p)[0].Start = start }, api.ErrState})
	}
	l = append(l, passFaults(1)...)
	l = append(l, planFault{"1", 1, func(p *[]api.SchedulePass) { (*p)[1] = pass(1, 3, 0) }, api.ErrState})
	for start := range 3 {
		l = append(l, planFault{"", 1, func(p *[]api.SchedulePass) { (*p)[1] = pass(1, start, 0) }, api.ErrClash})
	}
	return append(l, passFaults(2)...)
}

// P9.2: the errors of plans, in their order, with the index of the pass; of other functions, too.
func TestPlanErrors(t *testing.T) {
	w := venusWeek()
	eachFault(examplePlan(), clonePlan, planFaults(), func(p []api.SchedulePass, f planFault) {
		i, e := schedule.CheckPlan(w, p)
		wantError(t, p, e, f.want)
		if i != f.at {
			t.Error(p, i, f.at)
		}
		value, e := schedule.ValueOf(w, p)
		wantNoValue(t, p, value, e, f.want)
		placements, e := schedule.Placements(w, p, -1)
		wantNoSlice(t, p, placements, e, f.want)
		included, e := schedule.Included(w, p, -1)
		wantNoSlice(t, p, included, e, f.want)
		free, e := schedule.FreeOf(w, p, -1)
		wantNoSlice(t, p, free, e, f.want)
		load, e := schedule.LoadOf(w, p, -1)
		wantNoValue(t, p, load, e, f.want)
		share, e := schedule.ShareOf(w, p, "")
		wantNoValue(t, p, share, e, f.want)
		missions, e := schedule.ToTell(w, api.SchedulePlans{Old: p, New: []api.SchedulePass{pass(9, 9)}})
		wantNoSlice(t, p, missions, e, f.want)
		missions, e = schedule.ToTell(w, api.SchedulePlans{Old: examplePlan(), New: p})
		wantNoSlice(t, p, missions, e, f.want)
	})
}

// P9.2: the plan of the example, empty plans, and plans that do not have a pass of each request.
func TestCheckPlan(t *testing.T) {
	w := venusWeek()
	for s, value := range map[string]int{
		"": 0, "0@0+0 1@0+1 2@5+0+1": 23, "0@0+0 1@0+1 3@5+0+1": 26, "2@0+0+1 3@5+0+1": 15, "1@2+0": 7, "0@1+0 1@3+1 2@6+0+1": 23, "2@6+0+1": 6,
	} {
		p := planOf(t, s)
		beforeWeek, beforePlan := text(w), text(p)
		i, e := schedule.CheckPlan(w, p)
		wantValue(t, s, i, e, 0)
		n, e := schedule.ValueOf(w, p)
		wantValue(t, s, n, e, value)
		wantSame(t, w, beforeWeek)
		wantSame(t, p, beforePlan)
	}
	i, e := schedule.CheckPlan(openWeek(1, 0), nil)
	wantValue(t, "nothing", i, e, 0)
	i, e = schedule.CheckPlan(openWeek(1, 0), make([]api.SchedulePass, 100000))
	wantNoValue(t, "no requests", i, e, api.ErrMissing)
}

// P9.2: a pass may lie at the ends of its window, which may be longer than the slots that are open in it, and around closed slots.
func TestWindows(t *testing.T) {
	w := openWeek(20, 1)
	w.Antennas[0].Setup = 5
	w.Antennas[0].Closed = []api.Range{within(5, 6), within(6, 8), within(12, 19)}
	w.Requests = []api.ScheduleRequest{request("mars", within(2, 18), 3, 1, 0)}
	for start := -1; start <= 20; start++ {
		want := api.ErrRange
		if 2 <= start && start <= 16 {
			want = api.ErrState
		}
		if start == 2 || start == 9 {
			want = api.OK
		}
		i, e := schedule.CheckPlan(w, []api.SchedulePass{pass(0, start, 0)})
		wantError(t, start, e, want)
		wantValue(t, start, i, api.OK, 0)
	}
	l, e := schedule.Placements(w, nil, 0)
	wantPasses(t, w, l, e, []api.SchedulePass{pass(0, 2, 0), pass(0, 9, 0)})
}

// P9.2: passes of different missions need as many slots between them as the set-up time of an antenna that both have, those of one mission none, and those of different antennas, too.
func TestSetup(t *testing.T) {
	for _, setup := range []int{0, 1, 3, 50} {
		w := openWeek(200, 3)
		w.Antennas[1].Setup = setup
		w.Antennas[2].Setup = 50
		w.Requests = []api.ScheduleRequest{
			{Mission: "mars", Window: within(0, 199), Length: 10, Antennas: []int{0, 1}, Need: 2},
			{Mission: "moon", Window: within(0, 199), Length: 5, Antennas: []int{1, 2}, Need: 2},
			{Mission: "mars", Window: within(0, 199), Length: 5, Antennas: []int{1, 2}, Need: 2},
			request("moon", within(0, 199), 5, 0, 2),
		}
		for start := range 196 {
			try := func(x api.SchedulePass, before, after int) {
				t.Helper()
				want := api.ErrClash
				if start+5 <= 100-before || start >= 110+after {
					want = api.OK
				}
				i, e := schedule.CheckPlan(w, []api.SchedulePass{pass(0, 100, 0, 1), x})
				wantError(t, x, e, want)
				if wantIndex := min(1, int(want)); i != wantIndex {
					t.Error(setup, x, i)
				}
			}
			try(pass(1, start, 1, 2), setup, setup)
			try(pass(2, start, 1, 2), 0, 0)
			_, e := schedule.CheckPlan(w, []api.SchedulePass{pass(0, 100, 0, 1), pass(3, start, 2)})
			wantError(t, start, e, api.OK)
		}
	}
}

// P9.2: random passes, of which some are a plan.
func TestCheckPlanRandomly(t *testing.T) {
	r := rand.New(rand.NewSource(1))
	accepted := 0
	for range 20000 {
		w := randomWeek(r, between(r, 4, 12), 4)
		var p []api.SchedulePass
		for request, x := range w.Requests {
			if r.Intn(3) > 0 {
				continue
			}
			antennas := r.Perm(len(w.Antennas))[:x.Need]
			slices.Sort(antennas)
			p = append(p, pass(request, between(r, x.Window.Lo, x.Window.Hi), antennas...))
		}
		_, e := schedule.CheckPlan(w, p)
		if (e == api.OK) != isPlanByDefinition(w, p) {
			t.Error(w, p, e)
		}
		if len(p) > 1 && e == api.OK {
			accepted++
		}
	}
	if accepted < 300 {
		t.Error("few plans:", accepted)
	}
}

// P9.3: example 1, and the placements beside other passes.
func TestPlacements(t *testing.T) {
	w := exampleWeek()
	for _, c := range []struct {
		plan    string
		request int
		want    []api.SchedulePass
	}{
		{"", 0, []api.SchedulePass{pass(0, 0, 0), pass(0, 1, 0)}},
		{"", 1, []api.SchedulePass{pass(1, 0, 0), pass(1, 0, 1), pass(1, 1, 0), pass(1, 1, 1), pass(1, 2, 0), pass(1, 2, 1), pass(1, 3, 1)}},
		{"", 2, []api.SchedulePass{pass(2, 0, 0, 1), pass(2, 5, 0, 1), pass(2, 6, 0, 1)}},
		{"0@0+0", 1, []api.SchedulePass{pass(1, 0, 1), pass(1, 1, 1), pass(1, 2, 1), pass(1, 3, 1)}},
		{"0@0+0 1@0+1", 2, []api.SchedulePass{pass(2, 5, 0, 1), pass(2, 6, 0, 1)}},
		{"1@2+0", 0, nil},
		{"2@0+0+1", 1, nil},
	} {
		p := planOf(t, c.plan)
		beforeWeek, beforePlan := text(w), text(p)
		l, e := schedule.Placements(w, p, c.request)
		wantPasses(t, c, l, e, c.want)
		wantApart(t, c, l)
		wantSame(t, w, beforeWeek)
		wantSame(t, p, beforePlan)
	}
}

// P9.3: of passes with the same start those come first whose antennas do.
func TestPlacementsOrder(t *testing.T) {
	w := openWeek(3, 4)
	w.Requests = []api.ScheduleRequest{{Mission: "mars", Window: within(0, 2), Length: 2, Antennas: []int{0, 1, 3}, Need: 2}, request("moon", within(1, 1), 1, 0, 1, 2)}
	l, e := schedule.Placements(w, nil, 0)
	wantPasses(t, w, l, e, []api.SchedulePass{pass(0, 0, 0, 1), pass(0, 0, 0, 3), pass(0, 0, 1, 3), pass(0, 1, 0, 1), pass(0, 1, 0, 3), pass(0, 1, 1, 3)})
	l, e = schedule.Placements(w, []api.SchedulePass{pass(1, 1, 1)}, 0)
	wantPasses(t, w, l, e, []api.SchedulePass{pass(0, 0, 0, 3), pass(0, 1, 0, 3)})
	w.Antennas[3].Closed = []api.Range{within(0, 0)}
	l, e = schedule.Placements(w, nil, 0)
	wantPasses(t, w, l, e, []api.SchedulePass{pass(0, 0, 0, 1), pass(0, 1, 0, 1), pass(0, 1, 0, 3), pass(0, 1, 1, 3)})
}

// P9.3: the errors of requests.
func TestPlacementsErrors(t *testing.T) {
	w := exampleWeek()
	for _, p := range [][]api.SchedulePass{nil, examplePlan()} {
		for _, n := range badNumbers(0, 2) {
			l, e := schedule.Placements(w, p, n)
			wantNoSlice(t, n, l, e, api.ErrMissing)
		}
	}
	for n := range 3 {
		l, e := schedule.Placements(w, examplePlan(), n)
		wantNoSlice(t, n, l, e, api.ErrDouble)
		l, e = schedule.Placements(w, examplePlan()[:2], n)
		if n < 2 {
			wantNoSlice(t, n, l, e, api.ErrDouble)
		}
	}
	l, e := schedule.Placements(openWeek(1, 0), nil, 0)
	wantNoSlice(t, "no requests", l, e, api.ErrMissing)
}

// P9.3: examples 2 and 5, and requests of the same value, in the order of the week.
func TestGreedy(t *testing.T) {
	same := openWeek(4, 1)
	for i := range 4 {
		same.Requests = append(same.Requests, request(fmt.Sprint("m", i), within(0, 3), 2, []int{5, 9, 5, 9}[i], 0))
	}
	zero := openWeek(4, 1) // a request of value 0 is granted if there is room for it
	zero.Requests = []api.ScheduleRequest{request("mars", within(0, 3), 2, 0, 0), request("moon", within(0, 3), 2, 1, 0)}
	for _, c := range []struct {
		week api.ScheduleWeek
		want string
	}{
		{exampleWeek(), "0@0+0 1@0+1 2@5+0+1"},
		{venusWeek(), "0@0+0 1@0+1 3@5+0+1"},
		{same, "1@0+0 3@2+0"},
		{zero, "0@2+0 1@0+0"},
		{openWeek(5, 3), ""},
	} {
		before := text(c.week)
		p, e := schedule.Greedy(c.week)
		wantPasses(t, c, p, e, planOf(t, c.want))
		wantApart(t, c, p)
		wantSame(t, c.week, before)
	}
}

// greedyByDefinition returns the plan that the rule of Greedy gives.
func greedyByDefinition(w api.ScheduleWeek) []api.SchedulePass {
	var p []api.SchedulePass
	for value := 100000; value >= 0; value-- {
		for request, r := range w.Requests {
			if r.Value != value {
				continue
			}
			if l := placementsByDefinition(w, p, request); len(l) > 0 {
				p = append(p, l[0])
			}
		}
	}
	slices.SortFunc(p, comparePasses)
	return p
}

// P9.3, P9.9: placements and the plans of Greedy in random weeks, also large ones.
func TestPlacementsAndGreedyRandomly(t *testing.T) {
	r := rand.New(rand.NewSource(2))
	for i := range 300 {
		w := randomWeek(r, between(r, 4, 30), between(r, 0, 12))
		p, e := schedule.Greedy(w)
		wantPasses(t, w, p, e, greedyByDefinition(w))
		_, e = schedule.CheckPlan(w, p)
		wantError(t, w, e, api.OK)
		some := slices.DeleteFunc(clonePlan(p), func(api.SchedulePass) bool { return r.Intn(3) == 0 })
		for request := range w.Requests {
			l, e := schedule.Placements(w, some, request)
			if _, ok := passOf(some, request); ok {
				wantNoSlice(t, w, l, e, api.ErrDouble)
				continue
			}
			wantPasses(t, w, l, e, placementsByDefinition(w, some, request))
		}
		if i == 0 {
			w = largeWeek()
			p, e := schedule.Greedy(w)
			wantPasses(t, w, p, e, greedyByDefinition(w))
		}
	}
}

// P9.6: example 6, and missions with several requests that are changed.
func TestToTell(t *testing.T) {
	w := venusWeek()
	w.Requests = append(w.Requests, request("moon", within(0, 9), 1, 1, 1), request("mars", within(0, 9), 1, 1, 1))
	for _, c := range []struct {
		old, now string
		want     []string
	}{
		{"", "", nil},
		{"0@0+0 1@0+1 2@5+0+1", "0@0+0 1@0+1 3@5+0+1", []string{"mars", "venus"}},
		{"0@0+0 1@0+1 3@5+0+1", "0@0+0 1@0+1 2@5+0+1", []string{"mars", "venus"}},
		{"0@0+0 1@0+1 2@5+0+1", "0@0+0 1@0+1 2@5+0+1", nil},
		{"0@0+0 1@0+1 2@5+0+1", "0@1+0 1@0+1 2@6+0+1", []string{"mars"}},
		{"1@0+0", "1@0+1", []string{"moon"}},
		{"1@0+1 3@5+0+1", "", []string{"moon", "venus"}},
		{"", "1@0+1 3@5+0+1", []string{"moon", "venus"}},
		{"0@0+0 4@9+1", "3@5+0+1", []string{"mars", "venus", "moon"}},
		{"1@0+1 4@9+1 5@8+1", "1@0+1 4@8+1 5@9+1", []string{"moon", "mars"}},
	} {
		x := api.SchedulePlans{Old: planOf(t, c.old), New: planOf(t, c.now)}
		before := text(x)
		missions, e := schedule.ToTell(w, x)
		wantSlice(t, c, missions, e, c.want)
		wantSame(t, x, before)
	}
}

// P9.6: the missions of the requests that are changed between random plans.
func TestToTellRandomly(t *testing.T) {
	r := rand.New(rand.NewSource(3))
	for range 200 {
		w, plans := randomSmallWeek(r)
		for range 20 {
			x := api.SchedulePlans{Old: plans[r.Intn(len(plans))], New: plans[r.Intn(len(plans))]}
			var want []string
			for _, request := range changedByDefinition(w, x.Old, x.New) {
				if name := w.Requests[request].Mission; !slices.Contains(want, name) {
					want = append(want, name)
				}
			}
			missions, e := schedule.ToTell(w, x)
			wantSlice(t, x, missions, e, want)
		}
	}
}

// P9.2: numbers far outside their ranges.
func TestCheckPlanOverflow(t *testing.T) {
	w := exampleWeek()
	for _, n := range []int{math.MinInt, math.MinInt + 3, math.MaxInt - 3, math.MaxInt} {
		_, e := schedule.CheckPlan(w, []api.SchedulePass{pass(0, n, 0)})
		wantError(t, n, e, api.ErrRange)
		_, e = schedule.CheckPlan(w, []api.SchedulePass{pass(n, n, n)})
		wantError(t, n, e, api.ErrMissing)
		_, e = schedule.CheckPlan(w, []api.SchedulePass{pass(0, 0, n)})
		wantError(t, n, e, api.ErrMissing)
	}
}
