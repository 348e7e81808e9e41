package schedule_test

import (
	"math/rand"
	"testing"

	"cassegrain/api"
	"cassegrain/number"
	"cassegrain/schedule"
)

// P9.7: example 7, and other plans and antennas.
func TestFreeOf(t *testing.T) {
	closed := openWeek(10, 2) // closed ranges overlap, and touch both ends
	closed.Antennas[0].Closed = []api.Range{within(6, 9), within(0, 1), within(5, 7), within(1, 2)}
	closed.Antennas[1].Closed = []api.Range{within(0, 9)}
	closed.Requests = []api.ScheduleRequest{request("mars", within(3, 4), 1, 1, 0)}
	for _, c := range []struct {
		week    api.ScheduleWeek
		plan    string
		antenna int
		want    []api.Range
	}{
		{exampleWeek(), "0@0+0 1@0+1 2@5+0+1", 0, []api.Range{within(3, 3), within(9, 9)}},
		{exampleWeek(), "0@0+0 1@0+1 2@5+0+1", 1, []api.Range{within(2, 4), within(9, 9)}},
		{exampleWeek(), "0@1+0 1@3+1 2@6+0+1", 0, []api.Range{within(0, 0), within(5, 5)}},
		{exampleWeek(), "0@1+0 1@3+1 2@6+0+1", 1, []api.Range{within(0, 2), within(5, 5)}},
		{exampleWeek(), "", 0, []api.Range{within(0, 3), within(5, 9)}},
		{exampleWeek(), "", 1, []api.Range{within(0, 9)}},
		{exampleWeek(), "1@1+0", 1, []api.Range{within(0, 9)}},
		{closed, "", 0, []api.Range{within(3, 4)}},
		{closed, "0@3+0", 0, []api.Range{within(4, 4)}},
		{closed, "0@4+0", 1, nil},
		{openWeek(1, 1), "", 0, []api.Range{within(0, 0)}},
		{openWeek(200, 1), "", 0, []api.Range{within(0, 199)}},
	} {
		p := planOf(t, c.plan)
		beforeWeek, beforePlan := text(c.week), text(p)
		l, e := schedule.FreeOf(c.week, p, c.antenna)
		wantSlice(t, c, l, e, c.want)
		wantSame(t, c.week, beforeWeek)
		wantSame(t, p, beforePlan)
	}
}

// P9.7: example 7, antennas that are always closed or never occupied, and such as are always occupied.
func TestLoadOf(t *testing.T) {
	full := openWeek(6, 3)
	full.Antennas[0].Closed = []api.Range{within(4, 5), within(5, 5)}
	full.Antennas[1].Closed = []api.Range{within(0, 5), within(2, 3)}
	full.Requests = []api.ScheduleRequest{request("mars", within(0, 5), 2, 1, 0), request("mars", within(0, 5), 2, 1, 0, 2)}
	for _, c := range []struct {
		week    api.ScheduleWeek
		plan    string
		antenna int
		want    api.Frac
	}{
		{exampleWeek(), "0@0+0 1@0+1 2@5+0+1", 0, api.Frac{Num: 7, Den: 9}},
		{exampleWeek(), "0@0+0 1@0+1 2@5+0+1", 1, api.Frac{Num: 3, Den: 5}},
		{exampleWeek(), "0@0+0", 0, api.Frac{Num: 1, Den: 3}},
		{exampleWeek(), "0@0+0", 1, api.Frac{Num: 0, Den: 1}},
		{exampleWeek(), "", 0, api.Frac{Num: 0, Den: 1}},
		{full, "0@0+0 1@2+0", 0, api.Frac{Num: 1, Den: 1}},
		{full, "0@0+0 1@2+0", 1, api.Frac{Num: 0, Den: 1}},
		{full, "0@0+0 1@2+2", 2, api.Frac{Num: 1, Den: 3}},
		{full, "0@0+0 1@2+2", 0, api.Frac{Num: 1, Den: 2}},
	} {
		p := planOf(t, c.plan)
		before := text(p)
		load, e := schedule.LoadOf(c.week, p, c.antenna)
		wantValue(t, c, load, e, c.want)
		wantSame(t, p, before)
	}
}

// P9.7: antennas that do not exist.
func TestAntennaErrors(t *testing.T) {
	for _, p := range [][]api.SchedulePass{nil, examplePlan()} {
		for _, n := range badNumbers(0, 1) {
			l, e := schedule.FreeOf(exampleWeek(), p, n)
			wantNoSlice(t, n, l, e, api.ErrMissing)
			load, e := schedule.LoadOf(exampleWeek(), p, n)
			wantNoValue(t, n, load, e, api.ErrMissing)
		}
	}
	l, e := schedule.FreeOf(openWeek(1, 0), nil, 0)
	wantNoSlice(t, "no antennas", l, e, api.ErrMissing)
	load, e := schedule.LoadOf(openWeek(1, 0), nil, 0)
	wantNoValue(t, "no antennas", load, e, api.ErrMissing)
}

// P9.7: example 7, and missions that have no pass, or no request. A slot of a pass counts once, however many antennas it has.
func TestShareOf(t *testing.T) {
	for _, c := range []struct {
		plan, mission string
		want          api.Frac
	}{
		{"0@0+0 1@0+1 2@5+0+1", "mars", api.Frac{Num: 1, Den: 1}},
		{"0@0+0 1@0+1 2@5+0+1", "moon", api.Frac{Num: 1, Den: 1}},
		{"0@0+0 1@0+1 2@5+0+1", "venus", api.Frac{Num: 0, Den: 1}},
		{"0@0+0 3@5+0+1", "mars", api.Frac{Num: 3, Den: 7}},
		{"2@0+0+1", "mars", api.Frac{Num: 4, Den: 7}},
		{"2@0+0+1", "moon", api.Frac{Num: 0, Den: 1}},
		{"", "mars", api.Frac{Num: 0, Den: 1}},
		{"3@6+0+1", "venus", api.Frac{Num: 1, Den: 1}},
	} {
		p := planOf(t, c.plan)
		before := text(p)
		share, e := schedule.ShareOf(venusWeek(), p, c.mission)
		wantValue(t, c, share, e, c.want)
		wantSame(t, p, before)
	}
	w := venusWeek()
	w.Requests[1].Mission, w.Requests[3].Mission = "m", "m" // 2 of 6 slots
	share, e := schedule.ShareOf(w, planOf(t, "1@0+0"), "m")
	wantValue(t, w, share, e, api.Frac{Num: 1, Den: 3})
	for _, mission := range append(badNames(), "pluto", "Mars", "mar", "marsh", "a") {
		share, e := schedule.ShareOf(venusWeek(), examplePlan(), mission)
		wantNoValue(t, mission, share, e, api.ErrMissing)
	}
}

// P9.7, P9.13: each slot of an antenna is free, occupied or closed, exactly one of these; loads and shares are counted.
func TestAntennasRandomly(t *testing.T) {
	r := rand.New(rand.NewSource(9))
	for i := range 400 {
		w := randomWeek(r, between(r, 4, 40), between(r, 0, 12))
		if i == 0 {
			w = largeWeek()
		}
		p, e := schedule.Greedy(w)
		wantError(t, w, e, api.OK)
		for antenna := range w.Antennas {
			free, e := schedule.FreeOf(w, p, antenna)
			wantError(t, w, e, api.OK)
			occupied, open := 0, 0
			for slot := range w.Slots {
				ways := 0
				for i, x := range free {
					if x.Lo <= slot && slot <= x.Hi {
						ways++
					}
					if x.Lo > x.Hi || i > 0 && x.Lo <= free[i-1].Hi+1 {
						t.Error(w, p, free)
					}
				}
				for _, x := range p {
					if occupiesByDefinition(w, x, antenna, slot) {
						ways++
						occupied++
					}
				}
				if closedByDefinition(w, antenna, slot) {
					ways++
				} else {
					open++
				}
				if ways != 1 {
					t.Error(w, p, antenna, slot, free)
				}
			}
			load, e := schedule.LoadOf(w, p, antenna)
			wantValue(t, w, load, e, number.Lowest(occupied, max(1, open)))
		}
		for _, mission := range []string{"mars", "moon", "venus"} {
			granted, requested := 0, 0
			for request, x := range w.Requests {
				if _, ok := passOf(p, request); ok && x.Mission == mission {
					granted += x.Length
				}
				if x.Mission == mission {
					requested += x.Length
				}
			}
			share, e := schedule.ShareOf(w, p, mission)
			if requested == 0 {
				wantNoValue(t, w, share, e, api.ErrMissing)
				continue
			}
			wantValue(t, w, share, e, number.Lowest(granted, requested))
		}
	}
}
