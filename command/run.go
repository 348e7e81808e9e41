package command

import (
	"slices"

	"cassegrain/api"
	"cassegrain/check"
)

// stateKey is a state whose slices are arrays, with the numbers of their items, so that it can be the key of a map.
type stateKey struct {
	at, mode, base            int
	halted, told              bool
	executed, frames, reports int
	done                      [api.MaxCommandActs]api.CommandDone
	down                      [api.MaxCommandFlight]int
	up                        [api.MaxCommandFlight]api.CommandReport
}

// key returns the key of the link's state.
func (k link) key() stateKey {
	x := stateKey{at: k.At, mode: k.Mode, base: k.Base, halted: k.Halted, told: k.Told}
	x.executed = copy(x.done[:], k.Done)
	x.frames = copy(x.down[:], k.Down)
	x.reports = copy(x.up[:], k.Up)
	return x
}

// Reached returns the number of states that are reached from the beginning by at most so many events.
func Reached(u api.CommandUplink, events int) (int, api.Errno) {
	first, e := firstLink(u)
	if e != api.OK {
		return 0, e
	}
	if e := check.Range(events, 0, api.MaxCommandReach)(); e != api.OK {
		return 0, e
	}
	reached := map[stateKey]bool{first.key(): true}
	latest := []link{first}
	for range events {
		var next []link
		for _, k := range latest {
			for x := range eventKinds().candidates {
				after, e := k.apply(x)
				if e != api.OK || reached[after.key()] {
					continue
				}
				if len(reached) == api.MaxCommandStates {
					return 0, api.ErrLarge
				}
				reached[after.key()] = true
				next = append(next, after)
			}
		}
		latest = next
	}
	return len(reached), api.OK
}

// WayTo returns events after which all acts of the file are executed, and the station knows it.
func WayTo(u api.CommandUplink, s api.CommandState) ([]api.CommandEvent, api.Errno) {
	k, e := newLink(u, s)
	if e != api.OK {
		return nil, e
	}
	if k.Halted {
		return nil, api.ErrState
	}
	if _, ok := k.probe().times(k.File[len(k.Done):]); !ok {
		return nil, api.ErrNone
	}
	var way []api.CommandEvent
	for k.Base < len(k.File) {
		x := k.step()
		if k, e = k.apply(x); e != api.OK {
			return nil, e
		}
		way = append(way, x)
	}
	return way, api.OK
}

// step returns the next event of a way to the end. Reports are heard at once, and frames arrive at once but those of the act that the probe expects, which wait until it may be executed; so there is always room for a frame and a report, and no act makes the probe halt.
func (k link) step() api.CommandEvent {
	expected := len(k.Done)
	if len(k.Up) > 0 {
		return api.CommandEvent{Kind: api.CommandHear}
	}
	if i := slices.IndexFunc(k.Down, func(act int) bool { return act != expected }); i >= 0 {
		return api.CommandEvent{Kind: api.CommandArrive, Number: i}
	}
	if len(k.Down) == 0 { // If the station does not know yet that this act was executed, the report about it says what the probe expects.
		return api.CommandEvent{Kind: api.CommandSend, Number: k.Base}
	}
	if at, _ := k.probe().earliest(k.File[expected]); at > k.At {
		return api.CommandEvent{Kind: api.CommandPass, Number: at - k.At}
	}
	return api.CommandEvent{Kind: api.CommandArrive}
}
