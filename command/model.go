package command

import (
	"cassegrain/api"
	"cassegrain/check"
)

// CheckModel checks a model, and returns the part of it that an error concerns.
func CheckModel(m api.CommandModel) (api.CommandMark, api.Errno) {
	if i, e := checkModes(m); e != api.OK {
		return api.CommandMark{Part: api.CommandModes, Index: i}, e
	}
	if i, e := checkKinds(m); e != api.OK {
		return api.CommandMark{Part: api.CommandKinds, Index: i}, e
	}
	if i, e := checkRules(m); e != api.OK {
		return api.CommandMark{Part: api.CommandRules, Index: i}, e
	}
	return api.CommandMark{Part: api.CommandItself}, api.OK
}

func checkModes(m api.CommandModel) (int, api.Errno) {
	itself := func(name string) string { return name }
	return checkItems(m.Modes, 1, api.MaxCommandModes, func(i int, name string) api.Errno {
		return check.NewName(name, m.Modes[:i], itself)()
	})
}

func checkKinds(m api.CommandModel) (int, api.Errno) {
	nameOf := func(k api.CommandKind) string { return k.Name }
	return checkItems(m.Kinds, 1, api.MaxCommandKinds, func(i int, k api.CommandKind) api.Errno {
		return check.First(
			check.NewName(k.Name, m.Kinds[:i], nameOf),
			check.Require(api.ErrMissing, func() bool { return anyOrExists(m.Modes, k.To) }),
		)
	})
}

func checkRules(m api.CommandModel) (int, api.Errno) {
	nameOf := func(r api.CommandRule) string { return r.Name }
	return checkItems(m.Rules, 0, api.MaxCommandRules, func(i int, r api.CommandRule) api.Errno {
		return check.First(
			check.NewName(r.Name, m.Rules[:i], nameOf),
			check.Require(api.ErrMissing, func() bool {
				return check.Exists(m.Kinds, r.Kind) && anyOrExists(m.Modes, r.Mode) && anyOrExists(m.Kinds, r.After)
			}),
			check.Range(r.Gap, 1, api.MaxCommandGap),
			check.Require(api.ErrForm, func() bool { return r.After != api.CommandAny || r.Gap == 1 }),
		)
	})
}

// modelCheck is the check of a model.
func modelCheck(m api.CommandModel) func() api.Errno {
	return func() api.Errno {
		_, e := CheckModel(m)
		return e
	}
}
