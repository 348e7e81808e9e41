package command_test

import (
	"fmt"
	"math"
	"math/rand"
	"slices"
	"testing"

	"cassegrain/api"
	"cassegrain/command"
)

// The tests compare the package with the definitions of the chapter, which this file computes slowly: tick by tick, by trying all times, and with a link that is computed event by event from the acts that were executed.

// wantError reports an error that differs from the wanted one.
func wantError(t *testing.T, what any, got, want api.Errno) {
	t.Helper()
	if got != want {
		t.Errorf("%v: error %d, want %d", what, got, want)
	}
}

// wantValue reports a value or an error that differs from the wanted one.
func wantValue[T comparable](t *testing.T, what any, got T, e api.Errno, want T) {
	t.Helper()
	wantError(t, what, e, api.OK)
	if got != want {
		t.Errorf("%v: %v, want %v", what, got, want)
	}
}

// wantNoValue reports an error that differs from the wanted one, and a value beside it that is not its zero value.
func wantNoValue[T comparable](t *testing.T, what any, got T, e, want api.Errno) {
	t.Helper()
	wantError(t, what, e, want)
	if zero := *new(T); got != zero {
		t.Errorf("%v: %v beside an error", what, got)
	}
}

// wantSlice reports a slice or an error that differs from the wanted one; a nil slice is an empty one.
func wantSlice[T comparable](t *testing.T, what any, got []T, e api.Errno, want []T) {
	t.Helper()
	wantError(t, what, e, api.OK)
	if !slices.Equal(got, want) {
		t.Errorf("%v: %v, want %v", what, got, want)
	}
}

// wantNoSlice reports an error that differs from the wanted one, and items beside it.
func wantNoSlice[T any](t *testing.T, what any, got []T, e, want api.Errno) {
	t.Helper()
	wantError(t, what, e, want)
	if len(got) != 0 {
		t.Errorf("%v: %v beside an error", what, got)
	}
}

// text returns a string that is equal for equal values; a nil slice is an empty one.
func text(x any) string {
	return fmt.Sprintf("%+v", x)
}

// wantState reports a state or an error that differs from the wanted one.
func wantState(t *testing.T, what any, got api.CommandState, e api.Errno, want api.CommandState) {
	t.Helper()
	wantError(t, what, e, api.OK)
	if text(got) != text(want) {
		t.Errorf("%v: %+v, want %+v", what, got, want)
	}
}

// wantNoState reports an error that differs from the wanted one, and a state beside it that is not the zero value.
func wantNoState(t *testing.T, what any, got api.CommandState, e, want api.Errno) {
	t.Helper()
	wantError(t, what, e, want)
	if text(got) != text(api.CommandState{}) {
		t.Errorf("%v: %+v beside an error", what, got)
	}
}

// wantSame reports an argument that was modified.
func wantSame(t *testing.T, now any, before string) {
	t.Helper()
	if text(now) != before {
		t.Errorf("%v was modified: %v", before, now)
	}
}

// between returns a random number from lo to hi.
func between(r *rand.Rand, lo, hi int) int {
	return lo + r.Intn(hi-lo+1)
}

// badNumbers returns numbers that are not from lo to hi.
func badNumbers(lo, hi int) []int {
	return []int{math.MinInt, lo - 1000, lo - 1, hi + 1, hi + 1000, math.MaxInt}
}

// exampleModel returns the model of the examples.
func exampleModel() api.CommandModel {
	return api.CommandModel{
		Modes: []string{"safe", "cruise", "burn"},
		Kinds: []api.CommandKind{{Name: "wake", To: 1}, {Name: "fire", To: 2}, {Name: "stop", To: 1}, {Name: "ping", To: api.CommandAny}},
		Rules: []api.CommandRule{
			{Name: "cold", Kind: 1, Mode: 0, After: api.CommandAny, Gap: 1},
			{Name: "heat", Kind: 1, Mode: api.CommandAny, After: 2, Gap: 50},
		},
	}
}

// act returns an act of a kind with a window.
func act(kind, lo, hi int) api.CommandAct {
	return api.CommandAct{Kind: kind, Window: api.Range{Lo: lo, Hi: hi}}
}

// exampleFile returns the file of the examples.
func exampleFile() []api.CommandAct {
	return []api.CommandAct{act(0, 0, 100), act(1, 20, 200), act(2, 30, 300), act(1, 40, 400)}
}

func exampleUplink() api.CommandUplink {
	return api.CommandUplink{Model: exampleModel(), File: exampleFile(), Window: 2, Flight: 2}
}

// pings returns an uplink whose file has so many acts, which may be executed at any time.
func pings(count, window, flight int) api.CommandUplink {
	file := slices.Repeat([]api.CommandAct{act(3, 0, api.MaxTick)}, count)
	return api.CommandUplink{Model: exampleModel(), File: file, Window: window, Flight: flight}
}

func cloneModel(m api.CommandModel) api.CommandModel {
	return api.CommandModel{Modes: slices.Clone(m.Modes), Kinds: slices.Clone(m.Kinds), Rules: slices.Clone(m.Rules)}
}

func cloneUplink(u api.CommandUplink) api.CommandUplink {
	u.Model, u.File = cloneModel(u.Model), slices.Clone(u.File)
	return u
}

func cloneState(s api.CommandState) api.CommandState {
	s.Done, s.Down, s.Up = slices.Clone(s.Done), slices.Clone(s.Down), slices.Clone(s.Up)
	return s
}

// momentByDefinition returns the moment at a time after acts were executed.
func momentByDefinition(u api.CommandUplink, done []api.CommandDone, at int) api.CommandMoment {
	x := api.CommandMoment{At: at}
	for kind := range u.Model.Kinds {
		last := api.CommandNever
		for _, d := range done {
			if u.File[d.Act].Kind == kind {
				last = d.At
			}
		}
		x.Last = append(x.Last, last)
	}
	for _, d := range done {
		if to := u.Model.Kinds[u.File[d.Act].Kind].To; to >= 0 {
			x.Mode = to
		}
	}
	return x
}

// forbiddenByDefinition returns the name of the first rule that forbids an act of a kind.
func forbiddenByDefinition(m api.CommandModel, x api.CommandMoment, kind int) string {
	for _, r := range m.Rules {
		ofKind := r.Kind == kind
		inMode := r.Mode == -1 || r.Mode == x.Mode
		tooEarly := r.After == -1
		if !tooEarly && x.Last[r.After] != -1 {
			tooEarly = x.At < x.Last[r.After]+r.Gap
		}
		if ofKind && inMode && tooEarly {
			return r.Name
		}
	}
	return ""
}

// executableByDefinition says whether the next act may be executed at a time after others.
func executableByDefinition(u api.CommandUplink, done []api.CommandDone, at int) bool {
	a := u.File[len(done)]
	return a.Window.Lo <= at && at <= a.Window.Hi && forbiddenByDefinition(u.Model, momentByDefinition(u, done, at), a.Kind) == ""
}

// timesByDefinition returns the times of a file, by trying one after the other.
func timesByDefinition(u api.CommandUplink) ([]int, bool) {
	var times []int
	var done []api.CommandDone
	at := 0
	for i, a := range u.File {
		for at <= a.Window.Hi && !executableByDefinition(u, done, at) {
			at++
		}
		if at > a.Window.Hi {
			return nil, false
		}
		times = append(times, at)
		done = append(done, api.CommandDone{Act: i, At: at})
	}
	return times, true
}

// eachExecution calls a function with all ways to execute the remaining acts from a time on.
func eachExecution(u api.CommandUplink, done []api.CommandDone, from int, found func([]api.CommandDone)) {
	if len(done) == len(u.File) {
		found(done)
		return
	}
	for at := from; at <= u.File[len(done)].Window.Hi; at++ {
		if executableByDefinition(u, done, at) {
			eachExecution(u, append(slices.Clone(done), api.CommandDone{Act: len(done), At: at}), at, found)
		}
	}
}

// checkEventByDefinition returns the error of an event.
func checkEventByDefinition(e api.CommandEvent) api.Errno {
	in := func(lo, hi int) api.Errno {
		if lo <= e.Number && e.Number <= hi {
			return api.OK
		}
		return api.ErrRange
	}
	switch e.Kind {
	case api.CommandPass:
		return in(1, 1000000000000)
	case api.CommandSend:
		return in(0, 11)
	case api.CommandArrive, api.CommandHear, api.CommandLose, api.CommandDrop, api.CommandRepeat:
		return in(0, 5)
	case api.CommandRestart, api.CommandReboot:
		if e.Number != 0 {
			return api.ErrForm
		}
		return api.OK
	}
	return api.ErrKind
}

// reportByDefinition appends the probe's report.
func reportByDefinition(u api.CommandUplink, s *api.CommandState) {
	if len(s.Up) < u.Flight {
		s.Up = append(s.Up, api.CommandReport{Next: len(s.Done), Halted: s.Halted})
	}
}

// receiveByDefinition is what the probe does when an act arrives.
func receiveByDefinition(u api.CommandUplink, s *api.CommandState, i int) {
	if !s.Halted && i == len(s.Done) {
		if executableByDefinition(u, s.Done, s.At) {
			s.Done = append(s.Done, api.CommandDone{Act: i, At: s.At})
			s.Mode = momentByDefinition(u, s.Done, s.At).Mode
		} else {
			s.Halted = true
		}
	}
	reportByDefinition(u, s)
}

// applyByDefinition returns the state after an event, by the table.
func applyByDefinition(u api.CommandUplink, s api.CommandState, e api.CommandEvent) (api.CommandState, api.Errno) {
	if errno := checkEventByDefinition(e); errno != api.OK {
		return api.CommandState{}, errno
	}
	s = cloneState(s)
	if errno := changeByDefinition(u, &s, e); errno != api.OK {
		return api.CommandState{}, errno
	}
	return s, api.OK
}

func changeByDefinition(u api.CommandUplink, s *api.CommandState, e api.CommandEvent) api.Errno {
	n := e.Number
	switch e.Kind {
	case api.CommandPass:
		if s.At+n > 1000000000000 {
			return api.ErrRange
		}
		s.At += n
	case api.CommandSend:
		switch {
		case n >= len(u.File):
			return api.ErrMissing
		case s.Told:
			return api.ErrState
		case n < s.Base || n >= s.Base+u.Window:
			return api.ErrRefused
		case len(s.Down) >= u.Flight:
			return api.ErrFull
		}
		s.Down = append(s.Down, n)
	case api.CommandArrive, api.CommandLose, api.CommandRepeat:
		if n >= len(s.Down) {
			return api.ErrMissing
		}
		frame := s.Down[n]
		if e.Kind == api.CommandRepeat {
			if len(s.Down) >= u.Flight {
				return api.ErrFull
			}
			s.Down = append(s.Down, frame)
			return api.OK
		}
		s.Down = slices.Delete(s.Down, n, n+1)
		if e.Kind == api.CommandArrive {
			receiveByDefinition(u, s, frame)
		}
	case api.CommandHear, api.CommandDrop:
		if n >= len(s.Up) {
			return api.ErrMissing
		}
		report := s.Up[n]
		s.Up = slices.Delete(s.Up, n, n+1)
		if e.Kind == api.CommandHear {
			s.Base = max(s.Base, report.Next)
			s.Told = s.Told || report.Halted
		}
	case api.CommandRestart:
		s.Base, s.Told = 0, false
	case api.CommandReboot:
		reportByDefinition(u, s)
	}
	return api.OK
}

// checkStateByDefinition returns the error of a state of a valid uplink.
func checkStateByDefinition(u api.CommandUplink, s api.CommandState) api.Errno {
	if s.At < 0 || s.At > 1000000000000 {
		return api.ErrRange
	}
	if len(s.Done) > len(u.File) || len(s.Down) > u.Flight || len(s.Up) > u.Flight {
		return api.ErrLarge
	}
	for i, d := range s.Done {
		if d.Act != i || i > 0 && d.At < s.Done[i-1].At || d.At > s.At {
			return api.ErrOrder
		}
		if !executableByDefinition(u, s.Done[:i], d.At) {
			return api.ErrRefused
		}
	}
	executed := len(s.Done)
	switch {
	case s.Mode != momentByDefinition(u, s.Done, s.At).Mode:
		return api.ErrForm
	case s.Halted && executed == len(u.File):
		return api.ErrState
	case s.Base < 0 || s.Base > executed:
		return api.ErrRange
	case s.Told && !s.Halted, s.Told && s.Base != executed:
		return api.ErrForm
	}
	for _, frame := range s.Down {
		if frame < 0 || frame >= len(u.File) {
			return api.ErrMissing
		}
	}
	for _, r := range s.Up {
		if r.Next < 0 || r.Next > executed {
			return api.ErrRange
		}
		if r.Halted && (!s.Halted || r.Next != executed) {
			return api.ErrForm
		}
	}
	return api.OK
}

// randomModel returns a valid model whose rules have gaps up to a number.
func randomModel(r *rand.Rand, gap int) api.CommandModel {
	var m api.CommandModel
	for i := range between(r, 1, 4) {
		m.Modes = append(m.Modes, fmt.Sprint("mode-", i))
	}
	for i := range between(r, 1, 4) {
		m.Kinds = append(m.Kinds, api.CommandKind{Name: fmt.Sprint("kind-", i), To: between(r, -1, len(m.Modes)-1)})
	}
	for i := range r.Intn(5) {
		rule := api.CommandRule{
			Name: fmt.Sprint("rule-", i), Kind: r.Intn(len(m.Kinds)), Mode: between(r, -1, len(m.Modes)-1),
			After: r.Intn(len(m.Kinds)), Gap: between(r, 1, gap),
		}
		if r.Intn(6) == 0 {
			rule.After, rule.Gap = api.CommandAny, 1
		}
		m.Rules = append(m.Rules, rule)
	}
	return m
}

// randomUplink returns a valid uplink with at most so many acts, whose windows end at most at a time.
func randomUplink(r *rand.Rand, acts, time int) api.CommandUplink {
	u := api.CommandUplink{Model: randomModel(r, 1+time/2), Window: between(r, 1, 6), Flight: between(r, 1, 6)}
	for range between(r, 1, acts) {
		lo := r.Intn(time + 1)
		u.File = append(u.File, act(r.Intn(len(u.Model.Kinds)), lo, between(r, lo, time)))
	}
	slices.SortFunc(u.File, func(a, b api.CommandAct) int { return a.Window.Hi - b.Window.Hi })
	return u
}

// randomEvent returns an event that is accepted more often than not.
func randomEvent(r *rand.Rand, u api.CommandUplink, s api.CommandState) api.CommandEvent {
	e := api.CommandEvent{Kind: r.Intn(api.CommandEvents)}
	switch e.Kind {
	case api.CommandPass:
		e.Number = between(r, 1, 3)
	case api.CommandSend:
		e.Number = min(s.Base+r.Intn(u.Window+1), 11)
		if len(s.Done) < len(u.File) && r.Intn(2) == 0 {
			e.Number = len(s.Done)
		}
	case api.CommandArrive, api.CommandLose, api.CommandRepeat:
		e.Number = r.Intn(len(s.Down) + 1)
	case api.CommandHear, api.CommandDrop:
		e.Number = r.Intn(len(s.Up) + 1)
	}
	if r.Intn(40) == 0 {
		e.Number = between(r, -1, 12)
	}
	return e
}

// randomRun returns so many events that are accepted one after the other from the beginning on, and all states, by the definition. Losses are few, and so are probes that halt.
func randomRun(r *rand.Rand, u api.CommandUplink, count int) ([]api.CommandEvent, []api.CommandState) {
	states := []api.CommandState{{}}
	var events []api.CommandEvent
	for len(events) < count {
		last := states[len(states)-1]
		e := randomEvent(r, u, last)
		if (e.Kind == api.CommandLose || e.Kind == api.CommandDrop) && r.Intn(3) > 0 {
			continue
		}
		s, errno := applyByDefinition(u, last, e)
		if errno == api.OK && (s.Halted == last.Halted || r.Intn(30) == 0) {
			events, states = append(events, e), append(states, s)
		}
	}
	return events, states
}

// fault makes a valid value invalid: the part that it changes, where it is, how it is changed, and the error.
type fault[T any] struct {
	part  string
	at    api.CommandMark
	spoil func(*T)
	want  api.Errno
}

// independent says whether two faults change different parts, none of which contains the other one.
func (f fault[T]) independent(g fault[T]) bool {
	n := min(len(f.part), len(g.part))
	return f.part[:n] != g.part[:n]
}

// within returns faults of a part as faults of what contains it.
func within[W, T any](faults []fault[T], part func(*W) *T) []fault[W] {
	var l []fault[W]
	for _, f := range faults {
		l = append(l, fault[W]{f.part, f.at, func(w *W) { f.spoil(part(w)) }, f.want})
	}
	return l
}

// eachFault tries each fault alone, and with each later one, whose error is not returned.
func eachFault[T any](good T, clone func(T) T, faults []fault[T], try func(bad T, f fault[T])) {
	for i, f := range faults {
		bad := clone(good)
		f.spoil(&bad)
		try(bad, f)
		for _, g := range faults[i+1:] {
			if f.independent(g) {
				bad := clone(good)
				f.spoil(&bad)
				g.spoil(&bad)
				try(bad, f)
			}
		}
	}
}

// applied returns the state after strings of events from a state on, all of which must be accepted.
func applied(t *testing.T, u api.CommandUplink, s api.CommandState, events ...string) api.CommandState {
	t.Helper()
	for _, x := range events {
		e, errno := command.ParseEvent(x)
		wantError(t, x, errno, api.OK)
		s, errno = command.Apply(u, s, e)
		wantError(t, x, errno, api.OK)
		wantError(t, x, command.CheckState(u, s), api.OK)
	}
	return s
}
