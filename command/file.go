package command

import (
	"cassegrain/api"
	"cassegrain/check"
)

// CheckFile checks a file for a model, and returns the index of the act that an error concerns.
func CheckFile(m api.CommandModel, l []api.CommandAct) (int, api.Errno) {
	if _, e := CheckModel(m); e != api.OK {
		return 0, e
	}
	return checkItems(l, 1, api.MaxCommandActs, func(_ int, a api.CommandAct) api.Errno {
		return check.First(
			check.Require(api.ErrKind, func() bool { return check.Exists(m.Kinds, a.Kind) }),
			check.Ends(a.Window, 0, api.MaxTick),
			check.Ordered(a.Window),
		)
	})
}

// TimesOf returns the times of a file.
func TimesOf(m api.CommandModel, l []api.CommandAct) ([]int, api.Errno) {
	if _, e := CheckFile(m, l); e != api.OK {
		return nil, e
	}
	times, ok := newProbe(m).times(l)
	if !ok {
		return nil, api.ErrNone
	}
	return times, api.OK
}

// ModesOf returns the mode after each act of a file, if all are executed.
func ModesOf(m api.CommandModel, l []api.CommandAct) ([]int, api.Errno) {
	if _, e := CheckFile(m, l); e != api.OK {
		return nil, e
	}
	modes := make([]int, len(l))
	p := newProbe(m)
	for i, a := range l {
		p = p.after(a.Kind)
		modes[i] = p.Mode
	}
	return modes, api.OK
}
