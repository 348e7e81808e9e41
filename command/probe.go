package command

import (
	"slices"

	"cassegrain/api"
	"cassegrain/check"
	"cassegrain/number"
)

// probe is a valid model at a moment.
type probe struct {
	api.CommandModel
	api.CommandMoment
}

// newProbe returns a probe at the beginning.
func newProbe(m api.CommandModel) probe {
	never := slices.Repeat([]int{api.CommandNever}, len(m.Kinds))
	return probe{CommandModel: m, CommandMoment: api.CommandMoment{Last: never}}
}

// forbids says whether a rule forbids an act of a kind.
func (p probe) forbids(r api.CommandRule, kind int) bool {
	if r.Kind != kind || r.Mode != api.CommandAny && r.Mode != p.Mode {
		return false
	}
	if r.After == api.CommandAny {
		return true
	}
	last := p.Last[r.After]
	return last != api.CommandNever && p.At-last < r.Gap
}

// forbiddenBy returns the name of the first rule that forbids an act of a kind, or the empty string, which no rule has as its name.
func (p probe) forbiddenBy(kind int) string {
	for _, r := range p.Rules {
		if p.forbids(r, kind) {
			return r.Name
		}
	}
	return ""
}

// allows says whether an act may be executed now.
func (p probe) allows(a api.CommandAct) bool {
	return number.Within(p.At, a.Window.Lo, a.Window.Hi) && p.forbiddenBy(a.Kind) == ""
}

// earliest returns the earliest time from now on at which an act may be executed, if there is one.
func (p probe) earliest(a api.CommandAct) (int, bool) {
	p.At = max(p.At, a.Window.Lo)
	for _, r := range p.Rules { // A rule that does not forbid an act now does not forbid it later, if nothing is executed in between.
		if r.After != api.CommandAny && p.forbids(r, a.Kind) {
			p.At = p.Last[r.After] + r.Gap
		}
	}
	return p.At, p.allows(a)
}

// after returns the probe after it executed an act of a kind.
func (p probe) after(kind int) probe {
	p.Last = slices.Clone(p.Last)
	p.Last[kind] = p.At
	if to := p.Kinds[kind].To; to != api.CommandAny {
		p.Mode = to
	}
	return p
}

// times returns the earliest times from now on at which acts may be executed, in their order, if there are such times. As no rule forbids an act for longer if those before it are executed earlier, each time is the earliest possible one.
func (p probe) times(l []api.CommandAct) ([]int, bool) {
	times := make([]int, len(l))
	for i, a := range l {
		at, ok := p.earliest(a)
		if !ok {
			return nil, false
		}
		times[i], p.At = at, at
		p = p.after(a.Kind)
	}
	return times, true
}

// ForbiddenBy returns the name of the rule by which an act of a kind is forbidden at a moment.
func ForbiddenBy(m api.CommandModel, x api.CommandMoment, kind int) (string, api.Errno) {
	e := check.First(
		modelCheck(m),
		check.Require(api.ErrMissing, func() bool { return check.Exists(m.Modes, x.Mode) }),
		check.Range(x.At, 0, api.MaxTick),
		check.Require(api.ErrShape, func() bool { return len(x.Last) == len(m.Kinds) }),
		check.Each(x.Last, func(last int) api.Errno {
			return check.Require(api.ErrRange, func() bool { return last == api.CommandNever || number.Within(last, 0, x.At) })()
		}),
		check.Require(api.ErrKind, func() bool { return check.Exists(m.Kinds, kind) }),
	)
	if e != api.OK {
		return "", e
	}
	return probe{CommandModel: m, CommandMoment: x}.forbiddenBy(kind), api.OK
}
