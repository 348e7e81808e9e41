package command_test

import (
	"math/rand"
	"slices"
	"testing"

	"cassegrain/api"
	"cassegrain/command"
)

// allEvents returns all valid events, of CommandPass that with the number 1 alone.
func allEvents() []api.CommandEvent {
	var l []api.CommandEvent
	for kind := range api.CommandEvents {
		numbers := numbersOf(kind)
		if kind == api.CommandPass {
			numbers.Hi = 1
		}
		for n := numbers.Lo; n <= numbers.Hi; n++ {
			l = append(l, api.CommandEvent{Kind: kind, Number: n})
		}
	}
	return l
}

// reachedByDefinition returns the number of states that are reached by at most so many events, or a number above 3000.
func reachedByDefinition(u api.CommandUplink, events int) int {
	reached := map[string]bool{text(api.CommandState{}): true}
	latest := []api.CommandState{{}}
	for range events {
		var next []api.CommandState
		for _, s := range latest {
			for _, e := range allEvents() {
				after, errno := applyByDefinition(u, s, e)
				if errno == api.OK && !reached[text(after)] {
					reached[text(after)] = true
					next = append(next, after)
				}
			}
			if len(reached) > 3000 {
				return len(reached)
			}
		}
		latest = next
	}
	return len(reached)
}

// P8.6: numbers of states that are easily counted.
func TestReached(t *testing.T) {
	same := func(u api.CommandUplink, events, want int) {
		t.Helper()
		before := text(u)
		n, e := command.Reached(u, events)
		wantValue(t, events, n, e, want)
		wantSame(t, u, before)
	}
	same(exampleUplink(), 0, 1)
	same(exampleUplink(), 1, 5) // pass, send 0, send 1, and reboot; a restart changes nothing
	same(pings(1, 1, 1), 1, 4)
	// The beginning; 1 tick, a frame, a report; 2 ticks, a tick with a frame, a tick with a report; a frame that arrived, a frame and a report.
	same(pings(1, 1, 1), 2, 9)
	same(pings(12, 6, 6), 1, 9)
}

// P8.6: states by the definition, and its limits.
func TestReachedByDefinition(t *testing.T) {
	r := rand.New(rand.NewSource(10))
	counts := map[bool]int{}
	for range 200 {
		u := randomUplink(r, 4, 5)
		events := r.Intn(9)
		want := reachedByDefinition(u, events)
		n, e := command.Reached(u, events)
		if want > 3000 {
			wantNoValue(t, u, n, e, api.ErrLarge)
		} else {
			wantValue(t, u, n, e, want)
		}
		counts[want > 3000]++
	}
	if counts[true] < 5 || counts[false] < 30 {
		t.Error(counts)
	}
	for _, n := range badNumbers(0, 8) {
		got, e := command.Reached(pings(12, 6, 6), n)
		wantNoValue(t, n, got, e, api.ErrRange)
	}
	for events := 6; events <= 8; events++ {
		n, e := command.Reached(pings(12, 6, 6), events)
		wantNoValue(t, events, n, e, api.ErrLarge)
	}
}

// P8.6: exactly 3000 states, and one more.
func TestReachedLimit(t *testing.T) {
	most := pings(6, 5, 2)
	most.Model.Rules = []api.CommandRule{{Name: "own", Kind: 3, Mode: api.CommandAny, After: 3, Gap: 5}}
	most.File[0].Window, most.File[1].Window = api.Range{Lo: 0, Hi: 3}, api.Range{Lo: 2, Hi: 9}
	if n := reachedByDefinition(most, 7); n != 3000 {
		t.Fatal(n)
	}
	n, e := command.Reached(most, 7)
	wantValue(t, most, n, e, 3000)
	more := pings(3, 5, 3)
	more.File[0].Window, more.File[1].Window = api.Range{Lo: 2, Hi: 2}, api.Range{Lo: 3, Hi: 3}
	if n := reachedByDefinition(more, 8); n != 3001 {
		t.Fatal(n)
	}
	n, e = command.Reached(more, 8)
	wantNoValue(t, more, n, e, api.ErrLarge)
	n, e = command.Reached(more, 7)
	wantValue(t, more, n, e, reachedByDefinition(more, 7))
}

// P8.8 to P8.10: what holds in all states that are reached by short runs.
func TestKeptInShortRuns(t *testing.T) {
	u := api.CommandUplink{Model: exampleModel(), File: []api.CommandAct{act(0, 0, 1), act(2, 1, 2), act(1, 0, 60)}, Window: 2, Flight: 2}
	latest := []api.CommandState{{}}
	for range 4 {
		var next []api.CommandState
		for _, s := range latest {
			for _, e := range allEvents() {
				after, errno := command.Apply(u, s, e)
				if errno == api.OK {
					wantError(t, after, command.CheckState(u, after), api.OK)
					wantKept(t, u, s, after)
					next = append(next, after)
				}
			}
		}
		latest = next
	}
	if len(latest) < 1000 {
		t.Error(len(latest))
	}
}

// wantWay reports events that do not lead to the end, or not in the way that is promised.
func wantWay(t *testing.T, u api.CommandUplink, s api.CommandState) {
	t.Helper()
	before := text(s)
	way, e := command.WayTo(u, s)
	wantError(t, before, e, api.OK)
	wantSame(t, s, before)
	if len(way) > 200 {
		t.Error(u, before, len(way))
	}
	for _, x := range way {
		if x.Kind != api.CommandPass && x.Kind != api.CommandSend && x.Kind != api.CommandArrive && x.Kind != api.CommandHear {
			t.Error(u, before, way)
		}
		s, e = applyByDefinition(u, s, x)
		wantError(t, before, e, api.OK)
	}
	if len(s.Done) != len(u.File) || s.Base != len(u.File) {
		t.Error(u, before, way, s)
	}
}

// wantNoWay reports a way, or another error than the wanted one.
func wantNoWay(t *testing.T, u api.CommandUplink, s api.CommandState, want api.Errno) {
	t.Helper()
	way, e := command.WayTo(u, s)
	wantNoSlice(t, text(s), way, e, want)
}

// P8.6: ways of the example's file, and of others that are nearly finished, or only just not too late.
func TestWayTo(t *testing.T) {
	u := exampleUplink()
	wantWay(t, u, api.CommandState{})
	wantWay(t, u, underWay(false))
	wantNoWay(t, u, underWay(true), api.ErrState)
	wantNoWay(t, u, api.CommandState{Halted: true, At: 101}, api.ErrState) // before ErrNone
	wantWay(t, u, api.CommandState{At: 100})
	wantNoWay(t, u, api.CommandState{At: 101}, api.ErrNone)
	done := []api.CommandDone{{Act: 0, At: 0}, {Act: 1, At: 20}, {Act: 2, At: 30}, {Act: 3, At: 80}}
	wantWay(t, u, api.CommandState{At: 400, Mode: 1, Done: done[:3]})
	wantNoWay(t, u, api.CommandState{At: 401, Mode: 1, Done: done[:3]}, api.ErrNone)
	wantWay(t, u, api.CommandState{At: 40, Mode: 1, Done: done[:3], Base: 2, Down: []int{3, 3}}) // too early to arrive
	wantWay(t, u, api.CommandState{At: 40, Mode: 1, Done: done[:3], Down: []int{3, 0}, Up: []api.CommandReport{{Next: 1}, {Next: 0}}})
	finished := api.CommandState{At: api.MaxTick, Mode: 2, Done: done}
	wantWay(t, u, finished) // only the station must be told
	finished.Base, finished.Down, finished.Up = 3, []int{3, 0}, []api.CommandReport{{Next: 4}, {Next: 0}}
	wantWay(t, u, finished)
	finished.Base = 4
	way, e := command.WayTo(u, finished)
	wantSlice(t, "nothing is missing", way, e, nil)
	u.File[3].Window.Hi = 79
	wantNoWay(t, u, api.CommandState{}, api.ErrNone) // only the last act is impossible
	late := pings(2, 1, 1)
	late.File[1].Window.Lo = api.MaxTick
	wantWay(t, late, api.CommandState{})
	wantWay(t, late, api.CommandState{At: api.MaxTick})
}

// P8.6: the longest ways, with everything in flight.
func TestWayToLong(t *testing.T) {
	for flight := 1; flight <= 6; flight++ {
		for executed := range 13 {
			for frame := range 12 {
				u := pings(12, 1, flight)
				for i := range u.File {
					u.File[i].Window.Lo = 10 * i
				}
				s := api.CommandState{At: 500, Down: slices.Repeat([]int{frame}, flight), Up: make([]api.CommandReport, flight)}
				if executed < 12 {
					s.At = max(0, 10*executed-10)
				}
				for i := range executed {
					s.Done = append(s.Done, api.CommandDone{Act: i, At: 10 * i})
				}
				wantError(t, s, command.CheckState(u, s), api.OK)
				wantWay(t, u, s)
			}
		}
	}
}

// P8.6, P8.11: ways from states of any runs, exactly if the remaining acts can be executed.
func TestWayToByDefinition(t *testing.T) {
	r := rand.New(rand.NewSource(11))
	counts := map[api.Errno]int{}
	for range 600 {
		u := randomUplink(r, 4, 10)
		_, states := randomRun(r, u, r.Intn(80))
		for _, s := range []api.CommandState{{}, states[len(states)/2], states[len(states)-1]} {
			found := false
			eachExecution(u, s.Done, s.At, func([]api.CommandDone) { found = true })
			switch {
			case s.Halted:
				wantNoWay(t, u, s, api.ErrState)
				counts[api.ErrState]++
			case found:
				wantWay(t, u, s)
				counts[api.OK]++
			default:
				wantNoWay(t, u, s, api.ErrNone)
				counts[api.ErrNone]++
			}
		}
	}
	for _, e := range []api.Errno{api.OK, api.ErrState, api.ErrNone} {
		if counts[e] < 50 {
			t.Error(counts)
		}
	}
}

// P8.11: at the beginning there is a way exactly if there are times.
func TestWayToAtTheBeginning(t *testing.T) {
	r := rand.New(rand.NewSource(12))
	for range 2000 {
		u := randomUplink(r, 12, 200)
		_, want := command.TimesOf(u.Model, u.File)
		if want == api.OK {
			wantWay(t, u, api.CommandState{})
		} else {
			wantNoWay(t, u, api.CommandState{}, api.ErrNone)
		}
	}
}
