package pass_test

import (
	"fmt"
	"math/rand"
	"slices"
	"strings"
	"testing"

	"cassegrain/api"
	"cassegrain/pass"
)

// P10.2: example 1, the document's log, and a log with entries of all kinds.
func TestCheckLogExamples(t *testing.T) {
	for _, l := range [][]api.PassEntry{nil, {}, exampleLog(), station(), longLog(), with(longLog(), "end ada 40 0 ")} {
		before := text(l)
		i, e := pass.CheckLog(l)
		wantValue(t, l, i, e, 0)
		wantSame(t, l, before)
	}
	l := exampleLog()
	refused(t, l, "note cy 30 0 hello", api.ErrAllowed)
	refused(t, l, "set bo 30 0 lock 1 1 1", api.ErrAllowed)
	for _, x := range []struct {
		name string
		want int
	}{{"bo", 1}, {"ada", 2}} {
		role, e := pass.RoleOf(l, x.name)
		wantValue(t, x.name, role, e, x.want)
	}
	refused(t, l[:1], "join bo 5 1 bo", api.ErrAllowed) // nobody but the first one joins alone
}

// P10.2: the first entry is one by which an engineer joins by their own name.
func TestFirstEntry(t *testing.T) {
	accepted(t, nil, "join ada 0 2 ada")
	accepted(t, nil, "join b-2 1000000000000 2 b-2")
	for _, s := range []string{
		"join ada 0 2 bo", "join ada 0 0 ada", "join ada 0 1 ada", "join ada 0 3 ada", "join ada 0 2 Ada", "set ada 0 0 loop 1 0 2 0", "set ada 0 0 x", "take ada 0 0 x",
		"frame ada 0 0 x", "measure ada 0 0 x", "command ada 0 0 x", "note ada 0 0 ada", "end ada 0 0 ",
	} {
		refused(t, nil, s, api.ErrAllowed)
	}
}

// P10.2, P10.13: who may make which entries: by the last role, not by earlier ones.
func TestWhoMay(t *testing.T) {
	makers := map[string][]int{
		"join me 40 0 di":               {api.PassEngineer},
		"set me 40 0 loop 2 0 2 0":      {api.PassEngineer},
		"take me 40 0 " + examplePacket: {api.PassOperator},
		"frame me 40 0 0 5 0 9 0 1 7":   {api.PassOperator},
		"measure me 40 0 at 0 100 102":  {api.PassOperator},
		"command me 40 0 reboot":        {api.PassController},
		"note me 40 0 ":                 {api.PassViewer, api.PassOperator, api.PassEngineer, api.PassController},
		"end me 40 0 ":                  {api.PassEngineer},
	}
	for s, roles := range makers {
		for role := range api.PassRoles {
			want := api.ErrAllowed
			if slices.Contains(roles, role) {
				want = api.OK
			}
			for before := range api.PassRoles {
				l := with(station(), fmt.Sprintf("join ada 30 %d me", before), fmt.Sprintf("join ada 31 %d me", role))
				added(t, l, s, want)
			}
		}
		for _, unknown := range []string{"eve", "Ada", "m", "mee"} {
			refused(t, station(), strings.Replace(s, " me ", " "+unknown+" ", 1), api.ErrAllowed)
		}
	}
}

// P10.2: an engineer may give up the own role, and join again with the same one.
func TestOwnRole(t *testing.T) {
	l := accepted(t, exampleLog(), "join ada 30 2 ada", "join ada 30 2 bo", "join bo 30 2 bo", "join bo 31 0 ada", "join bo 32 1 bo")
	for _, s := range []string{"join ada 40 2 ada", "join bo 40 2 bo", "set ada 40 0 loop 1 0 2 0", "set bo 40 0 loop 1 0 2 0", "end ada 40 0 ", "end bo 40 0 "} {
		refused(t, l, s, api.ErrAllowed) // there is no engineer any more
	}
	accepted(t, l, "note ada 40 0 x", "measure bo 41 0 at 0 1 2")
}

// P10.2: at most ten persons have a role.
func TestTooManyPeople(t *testing.T) {
	l := exampleLog()
	for i := range 8 {
		l = accepted(t, l, fmt.Sprintf("join ada 30 %d p%d", i%4, i))
	}
	for role := range 4 {
		refused(t, l, fmt.Sprintf("join ada 30 %d eve", role), api.ErrFull)
	}
	people, e := pass.PeopleOf(accepted(t, l, "join ada 30 3 p7", "join ada 30 0 bo", "join ada 30 1 p0", "join ada 30 0 ada"))
	wantValue(t, "people", people, e, []string{"ada", "bo", "p0", "p1", "p2", "p3", "p4", "p5", "p6", "p7"})
}

// P10.2: after the end nothing is added; the order of times, and the same time.
func TestEndAndOrder(t *testing.T) {
	l := accepted(t, longLog(), "note vi 40 0 x", "note vi 40 0 x", "end ada 40 0 ")
	for _, s := range []string{
		"join ada 40 2 ada", "set ada 41 0 loop 1 0 2 0", "take bo 41 0 x", "frame bo 41 0 x", "measure bo 41 0 x", "command cy 41 0 x", "note vi 41 0 ", "end ada 41 0 ", "note eve 41 0 ", "set bo 41 0 x",
	} {
		refused(t, l, s, api.ErrState)
	}
	refused(t, l, "note vi 39 0 ", api.ErrOrder)
	refused(t, longLog(), "note vi 31 0 ", api.ErrOrder)
	refused(t, longLog(), "note vi 0 0 ", api.ErrOrder)
	accepted(t, longLog(), "note vi 32 0 ")
	has, e := pass.HasEnded(l)
	wantValue(t, "ended", has, e, true)
	for _, l := range [][]api.PassEntry{nil, exampleLog(), longLog(), accepted(t, longLog(), "note vi 40 0 end ada 41 0")} {
		has, e := pass.HasEnded(l)
		wantValue(t, "not ended", has, e, false)
	}
}

// P10.2: the errors of an entry in a log, in their order: alone, its time, after the end, who may make it, and then those of its kind.
func TestCheckLogOrder(t *testing.T) {
	type fault struct {
		want  api.Errno
		spoil func(l []api.PassEntry, e *api.PassEntry) []api.PassEntry
	}
	faults := []fault{
		{api.ErrName, func(l []api.PassEntry, e *api.PassEntry) []api.PassEntry { e.By = ""; return l }},
		{api.ErrOrder, func(l []api.PassEntry, e *api.PassEntry) []api.PassEntry { e.At = 31; return l }},
		{api.ErrState, func(l []api.PassEntry, e *api.PassEntry) []api.PassEntry { return with(l, "end ada 32 0 ") }},
		{api.ErrAllowed, func(l []api.PassEntry, e *api.PassEntry) []api.PassEntry {
			if e.By != "" {
				e.By = "eve"
			}
			return l
		}},
	}
	for _, s := range []string{"join ada 50 1 p9", "set ada 50 0 loop", "take bo 50 0 x", "frame bo 50 0 x", "measure bo 50 0 x", "command cy 50 0 x", "note vi 50 0 x"} {
		for i, f := range faults {
			l, e := longLog(), entry(s)
			l = f.spoil(l, &e)
			refused(t, l, pass.FormatEntry(e), f.want)
			for _, g := range faults[i+1:] {
				l, both := slices.Clone(l), e
				l = g.spoil(l, &both)
				refused(t, l, pass.FormatEntry(both), f.want)
			}
		}
	}
}

// P10.2: at most 60 entries, and the first of several entries with errors.
func TestCheckLogLarge(t *testing.T) {
	l := with(nil, "join ada 0 2 ada")
	for len(l) < 60 {
		l = accepted(t, l, "note ada 1 0 x")
	}
	i, e := pass.CheckLog(l)
	wantValue(t, "60 entries", i, e, 0)
	for _, s := range []string{"note ada 1 0 x", "note eve 0 7 x", "end ada 1 0 "} {
		all, errno := pass.Appended(l, entry(s))
		wantNoValue(t, s, all, errno, api.ErrLarge)
		bad := append(slices.Clone(l), entry(s))
		bad[3].Kind = -1
		i, e = pass.CheckLog(bad)
		wantNoValue(t, s, i, e, api.ErrLarge)
	}
	ended := append(slices.Clone(l[:59]), entry("end ada 1 0 "))
	all, errno := pass.Appended(ended, entry("note eve 0 7 x"))
	wantNoValue(t, "full and ended", all, errno, api.ErrLarge)
	i, e = pass.CheckLog(make([]api.PassEntry, 1000000))
	wantNoValue(t, "many", i, e, api.ErrLarge)
	bad := slices.Clone(l)
	bad[7].By, bad[9].At, bad[8].Text = "eve", 0, "\n"
	i, e = pass.CheckLog(bad)
	if i != 7 || e != api.ErrAllowed {
		t.Error(i, e)
	}
	bad[7].By = "ada"
	i, e = pass.CheckLog(bad)
	if i != 8 || e != api.ErrForm {
		t.Error(i, e)
	}
	bad[0].Number = 1
	i, e = pass.CheckLog(bad)
	wantNoValue(t, "the first one", i, e, api.ErrAllowed)
}

// P10.2, P10.9, P10.13: random entries after random logs, by definition. Every beginning of a log is valid, and Appended builds it.
func TestCheckLogByDefinition(t *testing.T) {
	r := rand.New(rand.NewSource(1))
	counts := map[api.Errno]int{}
	kinds := map[int]int{}
	for range 120 {
		var built []api.PassEntry
		l := randomLog(r, 100, func(l []api.PassEntry, e api.PassEntry, want api.Errno) {
			counts[want]++
			if len(built) == 0 {
				built = slices.Clone(l)
			}
			before := text(built)
			all, errno := pass.Appended(built, e)
			wantResult(t, e, all, errno, append(slices.Clone(l), e), want)
			wantSame(t, built, before)
			if want == api.OK {
				built = all
				kinds[e.Kind]++
				return
			}
			i, errno := pass.CheckLog(append(slices.Clone(l), e))
			if errno != want || i != len(l)%60 {
				t.Error(l, e, i, errno, want)
			}
		})
		for i := range len(l) + 1 {
			index, e := pass.CheckLog(l[:i])
			wantValue(t, l[:i], index, e, 0)
		}
		for i, e := range l {
			if i > 0 && !mayMakeByDefinition(l[:i], e) {
				t.Error(l, i)
			}
		}
		i, e := checkByDefinition(l)
		wantValue(t, l, i, e, 0)
	}
	for _, want := range []api.Errno{
		api.OK, api.ErrRange, api.ErrForm, api.ErrName, api.ErrMissing, api.ErrSyntax, api.ErrLarge, api.ErrOrder, api.ErrClash,
		api.ErrKind, api.ErrFull, api.ErrBusy, api.ErrAllowed, api.ErrState, api.ErrRefused,
	} {
		if counts[want] < 3 {
			t.Error(want, counts)
		}
	}
	for kind := range api.PassKinds {
		if kinds[kind] < 30 {
			t.Error(kind, kinds)
		}
	}
}

// P10.3 to P10.8: the errors of a log come before those of other arguments, and before results that do not exist.
func TestErrorsOfLogs(t *testing.T) {
	for _, c := range []struct {
		l    []api.PassEntry
		want api.Errno
	}{
		{make([]api.PassEntry, 61), api.ErrLarge},
		{with(nil, "note ada 0 0 x"), api.ErrAllowed},
		{[]api.PassEntry{{Kind: 8}}, api.ErrKind},
		{with(exampleLog(), "note ada 19 0 x"), api.ErrOrder},
		{with(exampleLog(), "frame bo 20 0 0 5 0 9 0 1 7"), api.ErrMissing},
		{with(longLog(), "end ada 40 0 ", "note vi 40 0 x"), api.ErrState},
		{with(longLog(), "set ada 40 0 frames 5 2", "note eve 0 0 x"), api.ErrBusy},
	} {
		before := text(c.l)
		all, e := pass.Appended(c.l, api.PassEntry{Kind: -1})
		wantNoValue(t, "Appended", all, e, c.want)
		role, e := pass.RoleOf(c.l, "")
		wantNoValue(t, "RoleOf", role, e, c.want)
		people, e := pass.PeopleOf(c.l)
		wantNoValue(t, "PeopleOf", people, e, c.want)
		s, e := pass.SettingAt(c.l, "", -1)
		wantNoValue(t, "SettingAt", s, e, c.want)
		has, e := pass.HasEnded(c.l)
		wantNoValue(t, "HasEnded", has, e, c.want)
		stream, e := pass.StreamOf(c.l)
		wantNoValue(t, "StreamOf", stream, e, c.want)
		report, e := pass.Play(c.l, api.CarrierLoop{}, api.CarrierLock{})
		wantNoValue(t, "Play", report, e, c.want)
		report, e = pass.Replay(c.l)
		wantNoValue(t, "Replay", report, e, c.want)
		packets, e := pass.PacketsOf(c.l, -1)
		wantNoValue(t, "PacketsOf", packets, e, c.want)
		distance, e := pass.DistanceOf(c.l, -1)
		wantNoValue(t, "DistanceOf", distance, e, c.want)
		uplink, e := pass.UplinkOf(c.l)
		wantNoValue(t, "UplinkOf", uplink, e, c.want)
		state, e := pass.LinkOf(c.l)
		wantNoValue(t, "LinkOf", state, e, c.want)
		s, e = pass.Journal(c.l)
		wantNoValue(t, "Journal", s, e, c.want)
		for _, line := range []string{"", "count", "role ada", "lock", "distance 0", "packets 0", "done"} {
			s, e = pass.Answer(c.l, line)
			wantNoValue(t, "Answer "+line, s, e, c.want)
		}
		merged, e := pass.Merged(c.l, with(nil, "note eve 0 0 x"))
		wantNoValue(t, "Merged", merged, e, c.want)
		merged, e = pass.Merged(exampleLog(), c.l)
		wantNoValue(t, "Merged", merged, e, c.want)
		wantSame(t, c.l, before)
	}
}
