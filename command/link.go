package command

import (
	"cassegrain/api"
	"cassegrain/check"
	"cassegrain/number"
)

// link is a valid uplink with a state of it. Its methods do not change the slices of the state, but replace them, so that links share them.
type link struct {
	api.CommandUplink
	api.CommandState
}

// apply returns the link after an event.
func (k link) apply(x api.CommandEvent) (link, api.Errno) {
	if e := CheckEvent(x); e != api.OK {
		return link{}, e
	}
	return eventKinds()[x.Kind].change(k, x.Number)
}

func (k link) pass(ticks int) (link, api.Errno) {
	k.At += ticks
	if k.At > api.MaxTick {
		return link{}, api.ErrRange
	}
	return k, api.OK
}

func (k link) send(act int) (link, api.Errno) {
	e := check.First(
		check.Require(api.ErrMissing, func() bool { return check.Exists(k.File, act) }),
		check.Require(api.ErrState, func() bool { return !k.Told }),
		check.Require(api.ErrRefused, func() bool { return number.Within(act, k.Base, k.Base+k.Window-1) }),
	)
	if e != api.OK {
		return link{}, e
	}
	return k.fly(act)
}

// fly returns the link with one more frame in flight to the probe.
func (k link) fly(act int) (link, api.Errno) {
	if len(k.Down) == k.Flight {
		return link{}, api.ErrFull
	}
	k.Down = appended(k.Down, act)
	return k, api.OK
}

func (k link) arrive(i int) (link, api.Errno) {
	act, rest, ok := taken(k.Down, i)
	if !ok {
		return link{}, api.ErrMissing
	}
	k.Down = rest
	return k.receive(act).report(), api.OK
}

// receive returns the link after the probe received an act.
func (k link) receive(act int) link {
	if k.Halted || act != len(k.Done) {
		return k
	}
	p := k.probe()
	if !p.allows(k.File[act]) {
		k.Halted = true
		return k
	}
	k.Done = appended(k.Done, api.CommandDone{Act: act, At: k.At})
	k.Mode = p.after(k.File[act].Kind).Mode
	return k
}

// report returns the link after the probe reported.
func (k link) report() link {
	if len(k.Up) < k.Flight {
		k.Up = appended(k.Up, api.CommandReport{Next: len(k.Done), Halted: k.Halted})
	}
	return k
}

// probe returns the probe after the acts that were executed, now.
func (k link) probe() probe {
	p := newProbe(k.Model)
	for _, d := range k.Done {
		p.At = d.At
		p = p.after(k.File[d.Act].Kind)
	}
	p.At = k.At
	return p
}

func (k link) hear(i int) (link, api.Errno) {
	r, rest, ok := taken(k.Up, i)
	if !ok {
		return link{}, api.ErrMissing
	}
	k.Up = rest
	k.Base = max(k.Base, r.Next)
	k.Told = k.Told || r.Halted
	return k, api.OK
}

func (k link) lose(i int) (link, api.Errno) {
	_, rest, ok := taken(k.Down, i)
	if !ok {
		return link{}, api.ErrMissing
	}
	k.Down = rest
	return k, api.OK
}

func (k link) drop(i int) (link, api.Errno) {
	_, rest, ok := taken(k.Up, i)
	if !ok {
		return link{}, api.ErrMissing
	}
	k.Up = rest
	return k, api.OK
}

func (k link) repeat(i int) (link, api.Errno) {
	if !check.Exists(k.Down, i) {
		return link{}, api.ErrMissing
	}
	return k.fly(k.Down[i])
}

func (k link) restart(int) (link, api.Errno) {
	k.Base, k.Told = 0, false
	return k, api.OK
}

func (k link) reboot(int) (link, api.Errno) {
	return k.report(), api.OK
}

// Apply returns the state after an event.
func Apply(u api.CommandUplink, s api.CommandState, e api.CommandEvent) (api.CommandState, api.Errno) {
	k, errno := newLink(u, s)
	if errno != api.OK {
		return api.CommandState{}, errno
	}
	after, errno := k.apply(e)
	return after.CommandState, errno
}

// Replay returns the state after events from the beginning on, and the index of the event that an error concerns.
func Replay(u api.CommandUplink, l []api.CommandEvent) (api.CommandState, int, api.Errno) {
	k, e := firstLink(u)
	if e != api.OK {
		return api.CommandState{}, 0, e
	}
	if len(l) > api.MaxCommandEvents {
		return api.CommandState{}, 0, api.ErrLarge
	}
	i, e := check.Indexed(l, func(_ int, x api.CommandEvent) api.Errno {
		var e api.Errno
		k, e = k.apply(x)
		return e
	})
	return k.CommandState, i, e
}

// Executed returns the acts that are executed by events from the beginning on.
func Executed(u api.CommandUplink, l []api.CommandEvent) ([]api.CommandDone, api.Errno) {
	s, _, e := Replay(u, l)
	return s.Done, e
}

// Possible returns all events but CommandPass that are accepted in a state.
func Possible(u api.CommandUplink, s api.CommandState) ([]api.CommandEvent, api.Errno) {
	k, e := newLink(u, s)
	if e != api.OK {
		return nil, e
	}
	var events []api.CommandEvent
	for x := range eventKinds().candidates {
		if _, e := k.apply(x); e == api.OK && x.Kind != api.CommandPass {
			events = append(events, x)
		}
	}
	return events, api.OK
}
