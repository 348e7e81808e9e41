package command

import (
	"slices"

	"cassegrain/api"
	"cassegrain/check"
)

// CheckUplink checks an uplink.
func CheckUplink(u api.CommandUplink) api.Errno {
	return check.First(
		func() api.Errno {
			_, e := CheckFile(u.Model, u.File)
			return e
		},
		check.Range(u.Window, 1, api.MaxCommandWindow),
		check.Range(u.Flight, 1, api.MaxCommandFlight),
	)
}

// Begin returns the state at the beginning.
func Begin(u api.CommandUplink) (api.CommandState, api.Errno) {
	return api.CommandState{}, CheckUplink(u)
}

// CheckState checks an uplink and a state of it.
func CheckState(u api.CommandUplink, s api.CommandState) api.Errno {
	if e := CheckUplink(u); e != api.OK {
		return e
	}
	k := link{CommandUplink: u, CommandState: s}
	return check.First(
		check.Range(s.At, 0, api.MaxTick),
		check.Require(api.ErrLarge, func() bool {
			return len(s.Done) <= len(u.File) && max(len(s.Down), len(s.Up)) <= u.Flight
		}),
		k.checkDone,
		check.Require(api.ErrForm, func() bool { return s.Mode == k.probe().Mode }),
		check.Require(api.ErrState, func() bool { return !s.Halted || len(s.Done) < len(u.File) }),
		check.Range(s.Base, 0, len(s.Done)),
		check.Require(api.ErrForm, func() bool { return !s.Told || k.mayReport(s.Base, true) }),
		check.Each(s.Down, func(act int) api.Errno {
			return check.Require(api.ErrMissing, func() bool { return check.Exists(u.File, act) })()
		}),
		check.Each(s.Up, func(r api.CommandReport) api.Errno {
			return check.First(
				check.Range(r.Next, 0, len(s.Done)),
				check.Require(api.ErrForm, func() bool { return k.mayReport(r.Next, r.Halted) }),
			)
		}),
	)
}

// checkDone checks the acts that were executed.
func (k link) checkDone() api.Errno {
	p := newProbe(k.Model)
	_, e := check.Indexed(k.Done, func(i int, d api.CommandDone) api.Errno {
		if d.Act != i || d.At > k.At || i > 0 && d.At < k.Done[i-1].At {
			return api.ErrOrder
		}
		p.At = d.At
		if !p.allows(k.File[i]) {
			return api.ErrRefused
		}
		p = p.after(k.File[i].Kind)
		return api.OK
	})
	return e
}

// mayReport says whether the probe may have said this: as nothing is executed after it halts, it has halted only at its last number.
func (k link) mayReport(next int, halted bool) bool {
	return !halted || k.Halted && next == len(k.Done)
}

// newLink checks an uplink and a state. Its state shares no memory with the given one, as parts of it become results.
func newLink(u api.CommandUplink, s api.CommandState) (link, api.Errno) {
	if e := CheckState(u, s); e != api.OK {
		return link{}, e
	}
	s.Done, s.Down, s.Up = slices.Clone(s.Done), slices.Clone(s.Down), slices.Clone(s.Up)
	return link{CommandUplink: u, CommandState: s}, api.OK
}

// firstLink checks an uplink, and returns its link at the beginning.
func firstLink(u api.CommandUplink) (link, api.Errno) {
	s, e := Begin(u)
	if e != api.OK {
		return link{}, e
	}
	return link{CommandUplink: u, CommandState: s}, api.OK
}
