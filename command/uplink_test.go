package command_test

import (
	"fmt"
	"math"
	"math/rand"
	"slices"
	"testing"

	"cassegrain/api"
	"cassegrain/command"
)

// uplinkFaults returns the faults of the example's uplink, in the order in which they are checked.
func uplinkFaults() []fault[api.CommandUplink] {
	l := fileFaults()
	for _, n := range badNumbers(1, 6) {
		l = append(l, fault[api.CommandUplink]{part: "window", spoil: func(u *api.CommandUplink) { u.Window = n }, want: api.ErrRange})
		l = append(l, fault[api.CommandUplink]{part: "flight", spoil: func(u *api.CommandUplink) { u.Flight = n }, want: api.ErrRange})
	}
	return l
}

// P8.4 to P8.6: the errors of uplinks come before those of states, events and numbers.
func TestUplinkErrors(t *testing.T) {
	badState := api.CommandState{At: -1, Mode: -1, Base: -1}
	badEvents := slices.Repeat([]api.CommandEvent{{Kind: -1}}, 201)
	eachFault(exampleUplink(), cloneUplink, uplinkFaults(), func(u api.CommandUplink, f fault[api.CommandUplink]) {
		wantError(t, u, command.CheckUplink(u), f.want)
		s, e := command.Begin(u)
		wantNoState(t, u, s, e, f.want)
		wantError(t, u, command.CheckState(u, badState), f.want)
		wantError(t, u, command.CheckState(u, api.CommandState{}), f.want)
		s, e = command.Apply(u, badState, badEvents[0])
		wantNoState(t, u, s, e, f.want)
		s, i, e := command.Replay(u, badEvents)
		wantNoState(t, u, s, e, f.want)
		wantValue(t, u, i, api.OK, 0)
		done, e := command.Executed(u, badEvents)
		wantNoSlice(t, u, done, e, f.want)
		events, e := command.Possible(u, badState)
		wantNoSlice(t, u, events, e, f.want)
		n, e := command.Reached(u, -1)
		wantNoValue(t, u, n, e, f.want)
		events, e = command.WayTo(u, badState)
		wantNoSlice(t, u, events, e, f.want)
	})
}

// P8.4: uplinks within the limits, and their beginning.
func TestBegin(t *testing.T) {
	large := api.CommandUplink{Model: largeModel(), File: slices.Repeat([]api.CommandAct{act(7, 0, 5)}, 12), Window: 6, Flight: 6}
	for _, u := range []api.CommandUplink{exampleUplink(), large, pings(1, 1, 1), pings(12, 6, 1), pings(12, 1, 6)} {
		before := text(u)
		wantError(t, u, command.CheckUplink(u), api.OK)
		s, e := command.Begin(u)
		wantState(t, u, s, e, api.CommandState{})
		wantError(t, u, command.CheckState(u, s), api.OK)
		wantSame(t, u, before)
	}
}

// underWay returns a state of the example's uplink in which the probe executed two acts, and goes on or has halted.
func underWay(halted bool) api.CommandState {
	s := api.CommandState{
		At: 25, Mode: 2, Done: []api.CommandDone{{Act: 0, At: 3}, {Act: 1, At: 20}}, Base: 1,
		Down: []int{2, 0}, Up: []api.CommandReport{{Next: 1}, {Next: 2}},
	}
	if halted {
		s.Halted, s.Base, s.Told = true, 2, true
		s.Up[1].Halted = true
	}
	return s
}

// stateFaults returns the faults of these states, in the order in which they are checked.
func stateFaults(halted bool) []fault[api.CommandState] {
	var l []fault[api.CommandState]
	add := func(part string, want api.Errno, spoil func(*api.CommandState)) {
		l = append(l, fault[api.CommandState]{part: part, spoil: spoil, want: want})
	}
	for _, n := range badNumbers(0, api.MaxTick) {
		add("at", api.ErrRange, func(s *api.CommandState) { s.At = n })
	}
	add("done", api.ErrLarge, func(s *api.CommandState) { s.Done = make([]api.CommandDone, 5) })
	add("down", api.ErrLarge, func(s *api.CommandState) { s.Down = append(s.Down, 0) })
	add("up", api.ErrLarge, func(s *api.CommandState) { s.Up = append(s.Up, api.CommandReport{}) })
	add("done", api.ErrOrder, func(s *api.CommandState) { s.Done[0].Act, s.Done[1].Act = 1, 0 })
	for _, n := range []int{math.MinInt, -1, 1, 4, math.MaxInt} {
		add("done 0 act", api.ErrOrder, func(s *api.CommandState) { s.Done[0].Act = n })
	}
	for _, n := range []int{26, 100, api.MaxTick, math.MaxInt} {
		add("done 0 at", api.ErrOrder, func(s *api.CommandState) { s.Done[0].At = n })
	}
	add("done", api.ErrRefused, func(s *api.CommandState) { s.Done[0].At, s.Done[1].At = -1, 2 }) // no act is before it
	add("done", api.ErrRefused, func(s *api.CommandState) { s.Done[0].At = math.MinInt })
	for _, n := range []int{math.MinInt, -1, 0, 2, math.MaxInt} {
		add("done 1 act", api.ErrOrder, func(s *api.CommandState) { s.Done[1].Act = n })
	}
	for _, n := range []int{math.MinInt, -1, 2, 26, math.MaxInt} {
		add("done 1 at", api.ErrOrder, func(s *api.CommandState) { s.Done[1].At = n })
	}
	for _, n := range []int{3, 19} {
		add("done 1 at", api.ErrRefused, func(s *api.CommandState) { s.Done[1].At = n })
	}
	for _, n := range []int{math.MinInt, -1, 0, 1, 3, math.MaxInt} {
		add("mode", api.ErrForm, func(s *api.CommandState) { s.Mode = n })
	}
	for _, n := range badNumbers(0, 2) {
		add("base", api.ErrRange, func(s *api.CommandState) { s.Base = n })
	}
	if halted {
		add("base", api.ErrForm, func(s *api.CommandState) { s.Base = 0 })
		add("base", api.ErrForm, func(s *api.CommandState) { s.Base = 1 })
	} else {
		add("told", api.ErrForm, func(s *api.CommandState) { s.Told = true })
	}
	for i := range 2 {
		for _, n := range badNumbers(0, 3) {
			add(fmt.Sprint("down ", i), api.ErrMissing, func(s *api.CommandState) { s.Down[i] = n })
		}
	}
	for i := range 2 {
		part := fmt.Sprint("up ", i)
		for _, n := range badNumbers(0, 2) {
			add(part+" next", api.ErrRange, func(s *api.CommandState) { s.Up[i].Next = n })
		}
		if halted {
			add(part, api.ErrForm, func(s *api.CommandState) { s.Up[i] = api.CommandReport{Next: 1, Halted: true} })
		} else {
			add(part+" halted", api.ErrForm, func(s *api.CommandState) { s.Up[i].Halted = true })
		}
	}
	return l
}

// P8.4 to P8.6: the errors of states, in their order, come before those of events, and before ErrState of WayTo.
func TestStateErrors(t *testing.T) {
	u := exampleUplink()
	for _, halted := range []bool{false, true} {
		good := underWay(halted)
		wantError(t, good, command.CheckState(u, good), api.OK)
		eachFault(good, cloneState, stateFaults(halted), func(s api.CommandState, f fault[api.CommandState]) {
			wantError(t, s, command.CheckState(u, s), f.want)
			after, e := command.Apply(u, s, api.CommandEvent{Kind: -1})
			wantNoState(t, s, after, e, f.want)
			after, e = command.Apply(u, s, api.CommandEvent{Kind: api.CommandReboot})
			wantNoState(t, s, after, e, f.want)
			events, e := command.Possible(u, s)
			wantNoSlice(t, s, events, e, f.want)
			events, e = command.WayTo(u, s)
			wantNoSlice(t, s, events, e, f.want)
		})
	}
}

// P8.4: an act that a rule forbids, windows, modes, and a probe that halted after the last act.
func TestCheckStateOfActs(t *testing.T) {
	u := exampleUplink()
	same := func(want api.Errno, halted bool, mode int, at int, times ...int) {
		t.Helper()
		s := api.CommandState{At: at, Mode: mode, Halted: halted}
		for i, time := range times {
			s.Done = append(s.Done, api.CommandDone{Act: i, At: time})
		}
		wantError(t, s, command.CheckState(u, s), want)
	}
	same(api.OK, false, 2, 80, 0, 20, 30, 80)
	same(api.OK, false, 2, 400, 100, 200, 300, 400)
	same(api.OK, false, 2, api.MaxTick, 0, 20, 30, 80)
	same(api.OK, true, 1, 30, 0, 20, 30)
	same(api.OK, true, 0, 0)
	same(api.ErrState, true, 2, 80, 0, 20, 30, 80)
	same(api.ErrForm, true, 1, 80, 0, 20, 30, 80)
	same(api.ErrRefused, false, 2, 80, 0, 20, 30, 79) // "heat"
	same(api.ErrRefused, false, 2, 80, 0, 20, 31, 80)
	same(api.ErrRefused, false, 2, 401, 0, 20, 30, 401)
	same(api.ErrRefused, false, 1, 200, 101, 120)
	u.File[0].Kind = 3 // so that "cold" forbids the next act
	same(api.OK, false, 0, 25, 0)
	same(api.ErrRefused, false, 2, 25, 0, 25)
}

// P8.4: states by the definition, most of them nearly valid.
func TestCheckStateByDefinition(t *testing.T) {
	r := rand.New(rand.NewSource(4))
	counts := map[api.Errno]int{}
	for range 3000 {
		u := randomUplink(r, between(r, 1, 6), 12)
		_, states := randomRun(r, u, between(r, 0, 40))
		for range 5 {
			s := cloneState(states[r.Intn(len(states))])
			for range r.Intn(3) {
				changeState(r, &s)
			}
			want, before := checkStateByDefinition(u, s), text(s)
			wantError(t, before, command.CheckState(u, s), want)
			wantSame(t, s, before)
			counts[want]++
		}
	}
	for _, e := range []api.Errno{api.OK, api.ErrRange, api.ErrLarge, api.ErrOrder, api.ErrRefused, api.ErrForm, api.ErrState, api.ErrMissing} {
		if counts[e] < 30 {
			t.Error(counts)
		}
	}
}

// changeState changes a part of a state a little.
func changeState(r *rand.Rand, s *api.CommandState) {
	shift := between(r, -1, 1)
	switch r.Intn(10) {
	case 0:
		s.At += shift
	case 1:
		s.Mode += shift
	case 2:
		s.Done = append(s.Done, api.CommandDone{Act: len(s.Done), At: s.At + shift})
	case 3:
		s.Done = s.Done[:r.Intn(len(s.Done)+1)]
	case 4:
		if len(s.Done) > 0 {
			s.Done[r.Intn(len(s.Done))].At += shift
		}
	case 5:
		s.Halted = !s.Halted
	case 6:
		s.Base += shift
	case 7:
		s.Told = !s.Told
	case 8:
		s.Down = append(s.Down, between(r, -1, 6))
	case 9:
		s.Up = append(s.Up, api.CommandReport{Next: len(s.Done) + shift, Halted: r.Intn(2) == 0})
	}
}
