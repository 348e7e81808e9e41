package command_test

import (
	"math/rand"
	"slices"
	"testing"

	"cassegrain/api"
	"cassegrain/command"
)

// woken returns the example's state after its first act was executed at 0, and the station knows it.
func woken(t *testing.T) api.CommandState {
	t.Helper()
	return applied(t, exampleUplink(), api.CommandState{}, "send 0", "arrive 0", "hear 0")
}

// refused reports an event that is accepted, or refused with another error.
func refused(t *testing.T, u api.CommandUplink, s api.CommandState, event string, want api.Errno) {
	t.Helper()
	e, errno := command.ParseEvent(event)
	wantError(t, event, errno, api.OK)
	after, errno := command.Apply(u, s, e)
	wantNoState(t, event, after, errno, want)
}

// P8.5: examples 3 to 5.
func TestApplyExamples(t *testing.T) {
	u := exampleUplink()
	same := func(got, want api.CommandState) {
		t.Helper()
		wantState(t, "the state", got, api.OK, want)
	}
	wake := []api.CommandDone{{Act: 0, At: 0}}
	s := applied(t, u, api.CommandState{}, "send 0", "arrive 0")
	same(s, api.CommandState{Mode: 1, Done: wake, Up: []api.CommandReport{{Next: 1}}})
	s = applied(t, u, s, "drop 0", "send 0", "arrive 0")
	same(s, api.CommandState{Mode: 1, Done: wake, Up: []api.CommandReport{{Next: 1}}})
	s = applied(t, u, s, "hear 0")
	same(s, api.CommandState{Mode: 1, Done: wake, Base: 1})
	refused(t, u, api.CommandState{}, "send 2", api.ErrRefused)
	s = applied(t, u, api.CommandState{}, "send 1", "arrive 0")
	same(s, api.CommandState{Up: []api.CommandReport{{Next: 0}}}) // a later act does not halt the probe
	s = applied(t, u, woken(t), "send 1", "arrive 0")
	same(s, api.CommandState{Mode: 1, Done: wake, Halted: true, Base: 1, Up: []api.CommandReport{{Next: 1, Halted: true}}})
	s = applied(t, u, s, "hear 0")
	same(s, api.CommandState{Mode: 1, Done: wake, Halted: true, Base: 1, Told: true})
	refused(t, u, s, "send 1", api.ErrState)
	refused(t, u, s, "send 3", api.ErrState)
	s = applied(t, u, s, "restart")
	same(s, api.CommandState{Mode: 1, Done: wake, Halted: true})
	s = applied(t, u, s, "send 0", "arrive 0", "hear 0") // told again by any report
	same(s, api.CommandState{Mode: 1, Done: wake, Halted: true, Base: 1, Told: true})
}

// P8.5: examples 6 and 7.
func TestApplyMoreExamples(t *testing.T) {
	u := exampleUplink()
	stopped := applied(t, u, woken(t), "pass 20", "send 1", "arrive 0", "hear 0", "pass 10", "send 2", "arrive 0", "hear 0")
	done := []api.CommandDone{{Act: 0, At: 0}, {Act: 1, At: 20}, {Act: 2, At: 30}}
	wantState(t, "stopped", stopped, api.OK, api.CommandState{At: 30, Mode: 1, Done: done, Base: 3})
	early := applied(t, u, stopped, "send 3", "arrive 0")
	wantState(t, "early", early, api.OK, api.CommandState{At: 30, Mode: 1, Done: done, Halted: true, Base: 3, Up: []api.CommandReport{{Next: 3, Halted: true}}})
	early = applied(t, u, stopped, "send 3", "pass 49", "arrive 0") // in its window, and still too hot
	wantState(t, "early", early, api.OK, api.CommandState{At: 79, Mode: 1, Done: done, Halted: true, Base: 3, Up: []api.CommandReport{{Next: 3, Halted: true}}})
	late := applied(t, u, stopped, "pass 50", "send 3", "arrive 0")
	all := append(slices.Clone(done), api.CommandDone{Act: 3, At: 80})
	wantState(t, "late", late, api.OK, api.CommandState{At: 80, Mode: 2, Done: all, Base: 3, Up: []api.CommandReport{{Next: 4}}})
	missed := applied(t, u, stopped, "pass 371", "send 3", "arrive 0") // the window has passed
	wantState(t, "missed", missed, api.OK, api.CommandState{At: 401, Mode: 1, Done: done, Halted: true, Base: 3, Up: []api.CommandReport{{Next: 3, Halted: true}}})
	twice := applied(t, u, api.CommandState{}, "send 0", "repeat 0", "pass 7", "arrive 1", "pass 1", "arrive 0")
	want := api.CommandState{At: 8, Mode: 1, Done: []api.CommandDone{{Act: 0, At: 7}}, Up: []api.CommandReport{{Next: 1}, {Next: 1}}}
	wantState(t, "twice", twice, api.OK, want)
}

// P8.5, P8.9: the edge cases of the link.
func TestApplyEdges(t *testing.T) {
	u := exampleUplink()
	same := func(s, want api.CommandState) {
		t.Helper()
		wantState(t, "the state", s, api.OK, want)
	}
	same(applied(t, u, api.CommandState{}, "send 1", "send 0"), api.CommandState{Down: []int{1, 0}}) // in any order
	same(applied(t, u, api.CommandState{}, "send 1", "send 0", "arrive 1", "pass 20", "arrive 0"), api.CommandState{
		At: 20, Mode: 2, Done: []api.CommandDone{{Act: 0, At: 0}, {Act: 1, At: 20}}, Up: []api.CommandReport{{Next: 1}, {Next: 2}},
	})
	same(applied(t, u, api.CommandState{}, "reboot", "reboot", "reboot"), api.CommandState{Up: []api.CommandReport{{}, {}}}) // the third report is lost
	full := applied(t, u, api.CommandState{}, "reboot", "reboot", "send 0", "arrive 0")
	same(full, api.CommandState{Mode: 1, Done: []api.CommandDone{{}}, Up: []api.CommandReport{{}, {}}})
	restarted := applied(t, u, applied(t, u, woken(t), "pass 20", "send 1", "arrive 0", "hear 0"), "reboot", "restart")
	refused(t, u, restarted, "send 2", api.ErrRefused) // the window begins at 0
	done := []api.CommandDone{{Act: 0, At: 0}, {Act: 1, At: 20}}
	same(restarted, api.CommandState{At: 20, Mode: 2, Done: done, Up: []api.CommandReport{{Next: 2}}})
	same(applied(t, u, restarted, "send 0", "arrive 0", "hear 1"), api.CommandState{At: 20, Mode: 2, Done: done, Base: 2, Up: []api.CommandReport{{Next: 2}}})
	old := applied(t, u, api.CommandState{}, "reboot", "send 0", "arrive 0", "hear 1", "hear 0") // an old report does no harm
	same(old, api.CommandState{Mode: 1, Done: []api.CommandDone{{}}, Base: 1})
	quiet := applied(t, u, api.CommandState{}, "send 0", "pass 101", "arrive 0", "drop 0") // the station does not know that the probe halted
	same(applied(t, u, quiet, "send 1"), api.CommandState{At: 101, Halted: true, Down: []int{1}})
	same(applied(t, u, quiet, "send 0", "arrive 0", "hear 0"), api.CommandState{At: 101, Halted: true, Told: true})
	again := api.CommandUplink{Model: exampleModel(), File: []api.CommandAct{act(3, 0, 9), act(3, 0, 9)}, Window: 1, Flight: 1}
	same(applied(t, again, api.CommandState{}, "pass 9", "send 0", "arrive 0", "hear 0", "send 1", "arrive 0"), api.CommandState{
		At: 9, Done: []api.CommandDone{{Act: 0, At: 9}, {Act: 1, At: 9}}, Base: 1, Up: []api.CommandReport{{Next: 2}},
	})
}

// P8.5: the errors of the table, in their order.
func TestApplyErrors(t *testing.T) {
	u := exampleUplink()
	none := api.CommandState{}
	refused(t, u, api.CommandState{At: api.MaxTick}, "pass 1", api.ErrRange)
	refused(t, u, api.CommandState{At: 1}, "pass 1000000000000", api.ErrRange)
	applied(t, u, none, "pass 1000000000000")
	applied(t, u, api.CommandState{At: api.MaxTick - 1}, "pass 1")
	for _, event := range []string{"arrive 0", "hear 0", "lose 0", "drop 0", "repeat 0", "arrive 5", "hear 5", "lose 5", "drop 5", "repeat 5"} {
		refused(t, u, none, event, api.ErrMissing)
	}
	two := applied(t, u, none, "send 0", "send 1", "reboot", "reboot")
	for _, event := range []string{"arrive 2", "hear 2", "lose 2", "drop 2", "repeat 2"} {
		refused(t, u, two, event, api.ErrMissing) // of "repeat" before ErrFull
	}
	for _, event := range []string{"send 0", "send 1", "repeat 0", "repeat 1"} {
		refused(t, u, two, event, api.ErrFull)
	}
	refused(t, u, two, "send 2", api.ErrRefused)
	refused(t, u, two, "send 4", api.ErrMissing)
	refused(t, u, none, "send 11", api.ErrMissing)
	refused(t, u, woken(t), "send 0", api.ErrRefused)
	refused(t, u, woken(t), "send 3", api.ErrRefused)
	applied(t, u, woken(t), "send 1", "send 2")
	told := api.CommandState{At: 101, Halted: true, Told: true, Down: []int{0, 0}}
	refused(t, u, told, "send 0", api.ErrState)
	refused(t, u, told, "send 3", api.ErrState)
	refused(t, u, told, "send 4", api.ErrMissing)
	for _, c := range badEvents() {
		after, e := command.Apply(u, told, c.event)
		wantNoState(t, c, after, e, c.want)
	}
}

// P8.5: events by the table, with which all states stay valid.
func TestApplyByDefinition(t *testing.T) {
	r := rand.New(rand.NewSource(5))
	counts := map[api.Errno]int{}
	for range 400 {
		u := randomUplink(r, 6, 15)
		uplink := text(u)
		_, states := randomRun(r, u, 60)
		for _, s := range states {
			e, before := randomEvent(r, u, s), text(s)
			want, errno := applyByDefinition(u, s, e)
			got, gotErrno := command.Apply(u, s, e)
			if errno == api.OK {
				wantState(t, e, got, gotErrno, want)
			} else {
				wantNoState(t, e, got, gotErrno, errno)
			}
			counts[errno]++
			wantSame(t, s, before)
			wantError(t, before, command.CheckState(u, s), api.OK)
		}
		wantSame(t, u, uplink)
	}
	for _, e := range []api.Errno{api.OK, api.ErrRange, api.ErrForm, api.ErrMissing, api.ErrState, api.ErrRefused, api.ErrFull} {
		if counts[e] < 30 {
			t.Error(counts)
		}
	}
}

// P8.5: the results share no memory with the arguments, also where these have room for more items.
func TestApplyMemory(t *testing.T) {
	u := pings(12, 6, 6)
	roomy := func() api.CommandState {
		s := applied(t, u, api.CommandState{}, "pass 3", "send 0", "arrive 0", "send 1", "send 2", "repeat 0", "reboot", "reboot")
		s.Done, s.Down, s.Up = slices.Grow(s.Done, 9), slices.Grow(s.Down, 9), slices.Grow(s.Up, 9)
		return s
	}
	s := roomy()
	events, e := command.Possible(u, s)
	wantError(t, s, e, api.OK)
	for _, x := range append(events, api.CommandEvent{Kind: api.CommandPass, Number: 1}) {
		after, e := command.Apply(u, s, x)
		wantError(t, x, e, api.OK)
		clear(after.Done[:cap(after.Done)])
		clear(after.Down[:cap(after.Down)])
		clear(after.Up[:cap(after.Up)])
		wantSame(t, s, text(roomy()))
	}
	first, e := command.Apply(u, s, api.CommandEvent{Kind: api.CommandSend, Number: 5})
	wantError(t, s, e, api.OK)
	before := text(first)
	_, e = command.Apply(u, s, api.CommandEvent{Kind: api.CommandSend, Number: 4})
	wantError(t, s, e, api.OK)
	wantSame(t, first, before)
}

// P8.5, P8.8 to P8.10: runs event by event, and what holds after any accepted events.
func TestReplay(t *testing.T) {
	r := rand.New(rand.NewSource(6))
	halted, complete := 0, 0
	for range 400 {
		u := randomUplink(r, 4, between(r, 3, 15))
		count := r.Intn(150)
		if r.Intn(50) == 0 {
			count = api.MaxCommandEvents
		}
		events, states := randomRun(r, u, count)
		before, last := text(events), states[len(states)-1]
		s, i, e := command.Replay(u, events)
		wantState(t, events, s, e, last)
		wantValue(t, events, i, e, 0)
		done, e := command.Executed(u, events)
		wantSlice(t, events, done, e, last.Done)
		wantSame(t, events, before)
		times, e := command.TimesOf(u.Model, u.File)
		for n := range events {
			s, _, _ := command.Replay(u, events[:n+1])
			wantKept(t, u, states[n], s)
			if len(s.Done) == len(u.File) && e != api.OK {
				t.Error(u, s, "but no times")
			}
			for i, d := range s.Done {
				if e == api.OK && d.At < times[i] { // P8.12
					t.Error(u, s, times)
				}
			}
		}
		if last.Halted {
			halted++
		}
		if len(last.Done) == len(u.File) {
			complete++
		}
	}
	if halted < 30 || complete < 30 {
		t.Error(halted, complete)
	}
}

// wantKept reports what does not hold after an accepted event.
func wantKept(t *testing.T, u api.CommandUplink, before, s api.CommandState) {
	t.Helper()
	for i, d := range s.Done {
		if d.Act != i || d.At > s.At || i > 0 && d.At < s.Done[i-1].At || !executableByDefinition(u, s.Done[:i], d.At) {
			t.Error(u, s, "executed wrongly")
		}
	}
	if !slices.Equal(before.Done, s.Done[:min(len(before.Done), len(s.Done))]) {
		t.Error(before, s, "executed differently")
	}
	if s.Base > len(s.Done) || s.Told && !s.Halted {
		t.Error(s, "the station is wrong")
	}
	if before.Halted && (!s.Halted || len(s.Done) != len(before.Done)) {
		t.Error(before, s, "after it halted")
	}
}

// P8.9: after a restart the station is told again by any report, new or in flight, that was sent after the probe halted.
func TestToldAgain(t *testing.T) {
	r := rand.New(rand.NewSource(7))
	count := 0
	for range 300 {
		u := randomUplink(r, 4, 8)
		_, states := randomRun(r, u, 40)
		s := states[len(states)-1]
		if !s.Halted {
			continue
		}
		count++
		s = applied(t, u, s, "restart")
		for len(s.Up) == u.Flight {
			s = applied(t, u, s, "drop 0")
		}
		s = applied(t, u, s, "reboot")
		for len(s.Up) > 1 {
			s = applied(t, u, s, "drop 0")
		}
		s = applied(t, u, s, "hear 0")
		if !s.Told || s.Base != len(s.Done) {
			t.Error(u, s)
		}
	}
	if count < 30 {
		t.Error(count)
	}
}

// P8.5: the errors of Replay and Executed, with the index of the event.
func TestReplayErrors(t *testing.T) {
	fails := func(l []api.CommandEvent, index int, want api.Errno) {
		t.Helper()
		what := text(l[:min(len(l), 10)])
		s, i, e := command.Replay(exampleUplink(), l)
		wantNoState(t, what, s, e, want)
		if i != index {
			t.Error(what, i, index)
		}
		done, e := command.Executed(exampleUplink(), l)
		wantNoSlice(t, what, done, e, want)
	}
	reboot := api.CommandEvent{Kind: api.CommandReboot}
	many := slices.Repeat([]api.CommandEvent{reboot}, 201)
	fails(many, 0, api.ErrLarge)
	fails(slices.Repeat([]api.CommandEvent{{Kind: -1}}, 1000), 0, api.ErrLarge)
	_, i, e := command.Replay(exampleUplink(), many[:200])
	wantValue(t, "200 events", i, e, 0)
	for _, at := range []int{0, 1, 7, 199} {
		for _, c := range badEvents() {
			l := slices.Clone(many[:200])
			l[at] = c.event
			fails(l, at, c.want)
			l[199].Kind = c.event.Kind
			fails(l, at, c.want)
		}
	}
	send := func(n int) api.CommandEvent { return api.CommandEvent{Kind: api.CommandSend, Number: n} }
	fails([]api.CommandEvent{send(0), send(1), send(0)}, 2, api.ErrFull)
	fails([]api.CommandEvent{send(0), send(2), {Kind: -1}}, 1, api.ErrRefused)
	fails([]api.CommandEvent{send(4)}, 0, api.ErrMissing)
	fails([]api.CommandEvent{{Kind: api.CommandPass, Number: api.MaxTick}, {Kind: api.CommandPass, Number: 1}}, 1, api.ErrRange)
	s, i, e := command.Replay(exampleUplink(), nil)
	wantState(t, "no events", s, e, api.CommandState{})
	wantValue(t, "no events", i, e, 0)
	done, e := command.Executed(exampleUplink(), nil)
	wantSlice(t, "no events", done, e, nil)
}

// P8.5: the events that are possible, by trying all.
func TestPossible(t *testing.T) {
	r := rand.New(rand.NewSource(8))
	for range 300 {
		u := randomUplink(r, 12, 15)
		_, states := randomRun(r, u, r.Intn(60))
		s := states[len(states)-1]
		var want []api.CommandEvent
		for kind := api.CommandPass + 1; kind < api.CommandEvents; kind++ {
			for n := -1; n <= 13; n++ {
				e := api.CommandEvent{Kind: kind, Number: n}
				if _, errno := applyByDefinition(u, s, e); errno == api.OK {
					want = append(want, e)
				}
			}
		}
		before := text(s)
		got, e := command.Possible(u, s)
		wantSlice(t, s, got, e, want)
		wantSame(t, s, before)
	}
	got, e := command.Possible(exampleUplink(), api.CommandState{At: api.MaxTick})
	wantSlice(t, "the last tick", got, e, []api.CommandEvent{
		{Kind: api.CommandSend, Number: 0}, {Kind: api.CommandSend, Number: 1}, {Kind: api.CommandRestart}, {Kind: api.CommandReboot},
	})
}
