package command_test

import (
	"fmt"
	"math/rand"
	"slices"
	"testing"

	"cassegrain/api"
	"cassegrain/command"
)

// moment is what ForbiddenBy is asked about.
type moment struct {
	model api.CommandModel
	at    api.CommandMoment
	kind  int
}

func cloneMoment(x moment) moment {
	x.model, x.at.Last = cloneModel(x.model), slices.Clone(x.at.Last)
	return x
}

// momentFaults returns the faults of an example's moment, in the order in which they are checked.
func momentFaults() []fault[moment] {
	l := within(modelFaults(), func(x *moment) *api.CommandModel { return &x.model })
	add := func(part string, want api.Errno, spoil func(*moment)) {
		l = append(l, fault[moment]{part, api.CommandMark{}, spoil, want})
	}
	for _, n := range badNumbers(0, 2) {
		add("mode of", api.ErrMissing, func(x *moment) { x.at.Mode = n })
	}
	for _, n := range badNumbers(0, api.MaxTick) {
		add("time", api.ErrRange, func(x *moment) { x.at.At = n })
	}
	add("last", api.ErrShape, func(x *moment) { x.at.Last = nil })
	add("last", api.ErrShape, func(x *moment) { x.at.Last = x.at.Last[:3] })
	add("last", api.ErrShape, func(x *moment) { x.at.Last = append(x.at.Last, 0) })
	for i := range 4 {
		for _, n := range badNumbers(-1, 100) {
			add(fmt.Sprint("last ", i), api.ErrRange, func(x *moment) { x.at.Last[i] = n })
		}
	}
	for _, n := range badNumbers(0, 3) {
		add("kind", api.ErrKind, func(x *moment) { x.kind = n })
	}
	return l
}

// P8.2: the errors of models, moments and kinds, in their order.
func TestForbiddenByErrors(t *testing.T) {
	good := moment{exampleModel(), api.CommandMoment{Mode: 1, At: 100, Last: []int{-1, 0, 60, 100}}, 1}
	eachFault(good, cloneMoment, momentFaults(), func(x moment, f fault[moment]) {
		name, e := command.ForbiddenBy(x.model, x.at, x.kind)
		wantNoValue(t, x, name, e, f.want)
	})
}

// P8.2: example 2, and the edge cases of rules.
func TestForbiddenBy(t *testing.T) {
	m := exampleModel()
	m.Rules = append(m.Rules,
		api.CommandRule{Name: "own", Kind: 3, Mode: api.CommandAny, After: 3, Gap: 10},
		api.CommandRule{Name: "both", Kind: 2, Mode: 2, After: 0, Gap: 5},
		api.CommandRule{Name: "tick", Kind: 0, Mode: api.CommandAny, After: 1, Gap: 1},
		api.CommandRule{Name: "again", Kind: 0, Mode: 0, After: 1, Gap: 3},
		api.CommandRule{Name: "long", Kind: 0, Mode: 1, After: 2, Gap: 1000000},
	)
	same := func(want string, kind, mode, at int, last ...int) {
		t.Helper()
		name, e := command.ForbiddenBy(m, api.CommandMoment{Mode: mode, At: at, Last: last}, kind)
		wantValue(t, []int{kind, mode, at}, name, e, want)
	}
	same("cold", 1, 0, 0, -1, -1, -1, -1)
	same("cold", 1, 0, api.MaxTick, 0, 0, 0, 0)
	same("cold", 1, 0, 60, -1, -1, 50, -1) // and "heat" as a later one
	same("", 1, 1, 0, -1, -1, -1, -1)
	same("heat", 1, 1, 79, 0, 20, 30, -1)
	same("heat", 1, 2, 30, 0, 20, 30, -1)
	same("", 1, 1, 80, 0, 20, 30, -1)
	same("own", 3, 0, 9, -1, -1, -1, 0)
	same("own", 3, 1, 109, -1, -1, -1, 100)
	same("", 3, 0, 10, -1, -1, -1, 0)
	same("both", 2, 2, 4, 0, -1, -1, -1)
	same("", 2, 2, 5, 0, -1, -1, -1)
	same("", 2, 1, 4, 0, -1, -1, -1)  // another mode
	same("", 2, 2, 4, -1, -1, -1, -1) // never
	same("tick", 0, 0, 7, -1, 7, -1, -1)
	same("again", 0, 0, 8, -1, 7, -1, -1)
	same("", 0, 2, 8, -1, 7, -1, -1)
	same("long", 0, 1, 1000000, -1, -1, 1, -1)
	same("", 0, 1, 1000000, -1, -1, 0, -1)
	name, e := command.ForbiddenBy(api.CommandModel{Modes: []string{"a"}, Kinds: []api.CommandKind{{Name: "a"}}}, api.CommandMoment{Last: []int{0}}, 0)
	wantValue(t, "no rules", name, e, "")
}

// P8.2: rules by the definition.
func TestForbiddenByDefinition(t *testing.T) {
	r := rand.New(rand.NewSource(3))
	counts := map[bool]int{}
	for range 3000 {
		m := randomModel(r, 10)
		x := api.CommandMoment{Mode: r.Intn(len(m.Modes)), At: r.Intn(20)}
		for range m.Kinds {
			x.Last = append(x.Last, between(r, -1, x.At))
		}
		kind, before := r.Intn(len(m.Kinds)), text(x)
		want := forbiddenByDefinition(m, x, kind)
		name, e := command.ForbiddenBy(m, x, kind)
		wantValue(t, m, name, e, want)
		wantSame(t, x, before)
		counts[want == ""]++
	}
	if counts[true] < 300 || counts[false] < 300 {
		t.Error(counts)
	}
}
