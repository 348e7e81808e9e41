package command_test

import (
	"fmt"
	"math/rand"
	"slices"
	"testing"

	"cassegrain/api"
	"cassegrain/command"
)

// fileFaults returns the faults of the example's model and file, in the order in which they are checked; a mark's index is that of an act.
func fileFaults() []fault[api.CommandUplink] {
	l := within(modelFaults(), func(u *api.CommandUplink) *api.CommandModel { return &u.Model })
	for i := range l {
		l[i].at = api.CommandMark{}
	}
	add := func(part string, index int, want api.Errno, spoil func(*api.CommandUplink)) {
		l = append(l, fault[api.CommandUplink]{part, api.CommandMark{Index: index}, spoil, want})
	}
	add("acts", 0, api.ErrShape, func(u *api.CommandUplink) { u.File = nil })
	add("acts", 0, api.ErrLarge, func(u *api.CommandUplink) { u.File = slices.Repeat(u.File[:1], 13) })
	add("acts", 0, api.ErrLarge, func(u *api.CommandUplink) { u.File = slices.Repeat([]api.CommandAct{act(-1, -1, -2)}, 1000) })
	for i := range 4 {
		part := fmt.Sprint("acts ", i)
		for _, n := range badNumbers(0, 3) {
			add(part+" kind", i, api.ErrKind, func(u *api.CommandUplink) { u.File[i].Kind = n })
		}
		for _, n := range badNumbers(0, api.MaxTick) {
			add(part+" lo", i, api.ErrRange, func(u *api.CommandUplink) { u.File[i].Window.Lo = n })
			add(part+" hi", i, api.ErrRange, func(u *api.CommandUplink) { u.File[i].Window.Hi = n })
		}
		add(part, i, api.ErrOrder, func(u *api.CommandUplink) { u.File[i].Window = api.Range{Lo: 5, Hi: 4} })
		add(part, i, api.ErrOrder, func(u *api.CommandUplink) { u.File[i].Window = api.Range{Lo: api.MaxTick, Hi: 0} })
	}
	return l
}

// P8.2: files within the limits.
func TestCheckFile(t *testing.T) {
	for _, l := range [][]api.CommandAct{
		exampleFile(), pings(1, 1, 1).File, pings(12, 1, 1).File,
		{act(3, 0, 0)}, {act(0, api.MaxTick, api.MaxTick)}, {act(0, 5, 9), act(0, 5, 9), act(1, 0, 2)},
	} {
		before := text(l)
		i, e := command.CheckFile(exampleModel(), l)
		wantValue(t, l, i, e, 0)
		wantSame(t, l, before)
	}
	i, e := command.CheckFile(largeModel(), []api.CommandAct{act(7, 0, 1)})
	wantValue(t, "the last kind", i, e, 0)
}

// P8.2, P8.3: the errors of models and files, in their order, with the index of the act.
func TestFileErrors(t *testing.T) {
	eachFault(exampleUplink(), cloneUplink, fileFaults(), func(u api.CommandUplink, f fault[api.CommandUplink]) {
		i, e := command.CheckFile(u.Model, u.File)
		wantError(t, u, e, f.want)
		if i != f.at.Index {
			t.Error(u, i, f.at)
		}
		times, e := command.TimesOf(u.Model, u.File)
		wantNoSlice(t, u, times, e, f.want)
		modes, e := command.ModesOf(u.Model, u.File)
		wantNoSlice(t, u, modes, e, f.want)
	})
}

// P8.3: example 1, and windows and rules at their ends.
func TestTimesOf(t *testing.T) {
	same := func(l []api.CommandAct, want ...int) {
		t.Helper()
		before := text(l)
		times, e := command.TimesOf(exampleModel(), l)
		wantSlice(t, l, times, e, want)
		wantSame(t, l, before)
	}
	none := func(l ...api.CommandAct) {
		t.Helper()
		times, e := command.TimesOf(exampleModel(), l)
		wantNoSlice(t, l, times, e, api.ErrNone)
	}
	wake, stop := act(0, 0, 100), act(2, 0, 100)
	same(exampleFile(), 0, 20, 30, 80)
	same([]api.CommandAct{act(3, 7, 9), act(3, 0, 9), act(3, 8, 8), act(3, 0, 8)}, 7, 7, 8, 8) // at the same tick as the one before
	same([]api.CommandAct{act(3, api.MaxTick, api.MaxTick), act(3, 0, api.MaxTick)}, api.MaxTick, api.MaxTick)
	same([]api.CommandAct{wake, stop, act(1, 0, 50)}, 0, 0, 50)
	same([]api.CommandAct{stop, act(3, 90, 90), act(1, 0, 100), act(1, 0, 100)}, 0, 90, 90, 90)
	none(act(1, 0, api.MaxTick)) // "cold" forbids it always
	none(act(3, 0, 10), act(1, 5, 100))
	none(wake, stop, act(1, 0, 49))
	none(act(3, 9, 9), act(3, 0, 8))
	none(wake, act(2, api.MaxTick, api.MaxTick), act(1, 0, api.MaxTick)) // the gap ends after the last tick
	same([]api.CommandAct{wake, act(2, api.MaxTick-50, api.MaxTick), act(1, 0, api.MaxTick)}, 0, api.MaxTick-50, api.MaxTick)
}

// P8.3: a rule about its own kind, one with a mode and another act, several that end at different times, and the last act of a kind.
func TestTimesOfRules(t *testing.T) {
	m := exampleModel()
	m.Rules = []api.CommandRule{
		{Name: "own", Kind: 3, Mode: api.CommandAny, After: 3, Gap: 10},
		{Name: "both", Kind: 2, Mode: 2, After: 0, Gap: 30},
		{Name: "tick", Kind: 1, Mode: api.CommandAny, After: 0, Gap: 1},
		{Name: "late", Kind: 2, Mode: api.CommandAny, After: 1, Gap: 7},
	}
	same := func(want []int, kinds ...int) {
		t.Helper()
		var l []api.CommandAct
		for _, kind := range kinds {
			l = append(l, act(kind, 0, 1000))
		}
		times, e := command.TimesOf(m, l)
		wantSlice(t, l, times, e, want)
	}
	same([]int{0, 10, 20}, 3, 3, 3)
	same([]int{0, 1, 30}, 0, 1, 2) // "both" in the mode burn
	same([]int{0, 0}, 0, 2)        // not in another mode
	same([]int{0, 7}, 1, 2)        // and not without the act
	same([]int{0, 0, 0, 1, 30, 30, 37}, 0, 3, 0, 1, 2, 1, 2)
	same([]int{0, 10, 10, 11, 40}, 3, 3, 0, 1, 2)
}

// P8.3, P8.12: times by the definition, and as early as in any run in which all acts are executed.
func TestTimesOfByDefinition(t *testing.T) {
	r := rand.New(rand.NewSource(1))
	counts := map[bool]int{}
	for range 3000 {
		u := randomUplink(r, 4, between(r, 1, 12))
		want, ok := timesByDefinition(u)
		counts[ok]++
		times, e := command.TimesOf(u.Model, u.File)
		if !ok {
			wantNoSlice(t, u, times, e, api.ErrNone)
		} else {
			wantSlice(t, u, times, e, want)
		}
		var least []int
		eachExecution(u, nil, 0, func(done []api.CommandDone) {
			for i, d := range done {
				if i == len(least) {
					least = append(least, d.At)
				}
				least[i] = min(least[i], d.At)
			}
		})
		if !slices.Equal(least, want) {
			t.Error(u, least, want)
		}
	}
	if counts[true] < 500 || counts[false] < 500 {
		t.Error(counts)
	}
}

// P8.3: example 1, and the modes of files that cannot be executed.
func TestModesOf(t *testing.T) {
	same := func(l []api.CommandAct, want ...int) {
		t.Helper()
		before := text(l)
		modes, e := command.ModesOf(exampleModel(), l)
		wantSlice(t, l, modes, e, want)
		wantSame(t, l, before)
	}
	same(exampleFile(), 1, 2, 1, 2)
	same([]api.CommandAct{act(3, 0, 0), act(1, 0, 0), act(3, 0, 0), act(2, 5, 5), act(3, 0, 0)}, 0, 2, 2, 1, 1)
	r := rand.New(rand.NewSource(2))
	for range 300 {
		u := randomUplink(r, 12, 50)
		var done []api.CommandDone
		var want []int
		for i := range u.File {
			done = append(done, api.CommandDone{Act: i})
			want = append(want, momentByDefinition(u, done, 0).Mode)
		}
		modes, e := command.ModesOf(u.Model, u.File)
		wantSlice(t, u, modes, e, want)
	}
}
