package command_test

import (
	"fmt"
	"testing"

	"cassegrain/api"
	"cassegrain/command"
)

// badNames returns strings that are not names.
func badNames() []string {
	return []string{"", "abcdefghijklm", "9a", "-a", " ", "a b", "a;", "a,b", "a_", "\u00e4", "a\x00"}
}

// modelFaults returns the faults of the example's model, in the order in which they are checked.
func modelFaults() []fault[api.CommandModel] {
	var l []fault[api.CommandModel]
	add := func(part string, list, index int, want api.Errno, spoil func(*api.CommandModel)) {
		l = append(l, fault[api.CommandModel]{part, api.CommandMark{Part: list, Index: index}, spoil, want})
	}
	add("modes", api.CommandModes, 0, api.ErrShape, func(m *api.CommandModel) { m.Modes = nil })
	add("modes", api.CommandModes, 0, api.ErrLarge, func(m *api.CommandModel) { m.Modes = append(m.Modes, "d", "e", "f", "g") })
	add("modes", api.CommandModes, 0, api.ErrLarge, func(m *api.CommandModel) { m.Modes = make([]string, 1000) })
	for i := range 3 {
		part := fmt.Sprint("modes ", i)
		for _, name := range badNames() {
			add(part, api.CommandModes, i, api.ErrName, func(m *api.CommandModel) { m.Modes[i] = name })
		}
		for j := range i {
			add(part, api.CommandModes, i, api.ErrExists, func(m *api.CommandModel) { m.Modes[i] = exampleModel().Modes[j] })
		}
	}
	add("kinds", api.CommandKinds, 0, api.ErrShape, func(m *api.CommandModel) { m.Kinds = nil })
	add("kinds", api.CommandKinds, 0, api.ErrLarge, func(m *api.CommandModel) {
		for i := range 5 {
			m.Kinds = append(m.Kinds, api.CommandKind{Name: fmt.Sprint("more-", i)})
		}
	})
	add("kinds", api.CommandKinds, 0, api.ErrLarge, func(m *api.CommandModel) { m.Kinds = make([]api.CommandKind, 1000) })
	for i := range 4 {
		part := fmt.Sprint("kinds ", i)
		for _, name := range badNames() {
			add(part+" name", api.CommandKinds, i, api.ErrName, func(m *api.CommandModel) { m.Kinds[i].Name = name })
		}
		for j := range i {
			add(part+" name", api.CommandKinds, i, api.ErrExists, func(m *api.CommandModel) { m.Kinds[i].Name = exampleModel().Kinds[j].Name })
		}
		for _, to := range badNumbers(-1, 2) {
			add(part+" to", api.CommandKinds, i, api.ErrMissing, func(m *api.CommandModel) { m.Kinds[i].To = to })
		}
	}
	return append(l, ruleFaults()...)
}

// ruleFaults returns the faults of the rules of the example's model.
func ruleFaults() []fault[api.CommandModel] {
	var l []fault[api.CommandModel]
	add := func(part string, index int, want api.Errno, spoil func(*api.CommandModel)) {
		l = append(l, fault[api.CommandModel]{part, api.CommandMark{Part: api.CommandRules, Index: index}, spoil, want})
	}
	add("rules", 0, api.ErrLarge, func(m *api.CommandModel) {
		for i := range 9 {
			m.Rules = append(m.Rules, api.CommandRule{Name: fmt.Sprint("more-", i), After: 0, Gap: 1})
		}
	})
	add("rules", 0, api.ErrLarge, func(m *api.CommandModel) { m.Rules = make([]api.CommandRule, 1000) })
	for i := range 2 {
		part := fmt.Sprint("rules ", i)
		for _, name := range badNames() {
			add(part+" name", i, api.ErrName, func(m *api.CommandModel) { m.Rules[i].Name = name })
		}
		if i > 0 {
			add(part+" name", i, api.ErrExists, func(m *api.CommandModel) { m.Rules[i].Name = "cold" })
		}
		for _, n := range badNumbers(0, 3) {
			add(part+" kind", i, api.ErrMissing, func(m *api.CommandModel) { m.Rules[i].Kind = n })
		}
		for _, n := range badNumbers(-1, 2) {
			add(part+" mode", i, api.ErrMissing, func(m *api.CommandModel) { m.Rules[i].Mode = n })
		}
		for _, n := range badNumbers(-1, 3) {
			add(part+" after", i, api.ErrMissing, func(m *api.CommandModel) { m.Rules[i].After = n })
		}
		for _, n := range badNumbers(1, 1000000) {
			add(part+" gap", i, api.ErrRange, func(m *api.CommandModel) { m.Rules[i].Gap = n })
		}
		for _, n := range []int{2, 50, 1000000} {
			add(part, i, api.ErrForm, func(m *api.CommandModel) { m.Rules[i].After, m.Rules[i].Gap = api.CommandAny, n })
		}
	}
	return l
}

// largeModel returns a model with as many modes, kinds and rules as possible.
func largeModel() api.CommandModel {
	m := api.CommandModel{Modes: []string{"a", "B", "c-", "abcdefghijkl", "a0", "A"}}
	for i := range 8 {
		m.Kinds = append(m.Kinds, api.CommandKind{Name: fmt.Sprint("a", i), To: i - 2})
	}
	m.Kinds[0].To = api.CommandAny
	for i := range 10 {
		m.Rules = append(m.Rules, api.CommandRule{Name: fmt.Sprint("a", i), Kind: i % 8, Mode: i%7 - 1, After: i % 8, Gap: 1000000 - i})
	}
	m.Rules[9].After, m.Rules[9].Gap = api.CommandAny, 1
	return m
}

// P8.1: models within the limits. Names of modes, kinds and rules may be equal to each other, and rules too but for their names.
func TestCheckModel(t *testing.T) {
	equal := api.CommandModel{
		Modes: []string{"a", "b"},
		Kinds: []api.CommandKind{{Name: "a"}, {Name: "b"}},
		Rules: []api.CommandRule{{Name: "a", After: api.CommandAny, Gap: 1}, {Name: "b", After: api.CommandAny, Gap: 1}},
	}
	small := api.CommandModel{Modes: []string{"z"}, Kinds: []api.CommandKind{{Name: "z"}}}
	for _, m := range []api.CommandModel{exampleModel(), largeModel(), equal, small} {
		before := text(m)
		mark, e := command.CheckModel(m)
		wantValue(t, m, mark, e, api.CommandMark{Part: api.CommandItself})
		wantSame(t, m, before)
	}
}

// P8.1: the errors of models, in their order, with the mark.
func TestCheckModelErrors(t *testing.T) {
	eachFault(exampleModel(), cloneModel, modelFaults(), func(m api.CommandModel, f fault[api.CommandModel]) {
		mark, e := command.CheckModel(m)
		wantError(t, m, e, f.want)
		if mark != f.at {
			t.Error(m, mark, f.at)
		}
	})
	if mark, e := command.CheckModel(api.CommandModel{}); e != api.ErrShape || mark != (api.CommandMark{Part: api.CommandModes}) {
		t.Error(mark, e)
	}
}
