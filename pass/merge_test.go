package pass_test

import (
	"math/rand"
	"slices"
	"strings"
	"testing"

	"cassegrain/api"
	"cassegrain/pass"
)

// wantMerged reports logs that are not merged as wanted, in both orders.
func wantMerged(t *testing.T, a, b, want []api.PassEntry, wanted api.Errno) {
	t.Helper()
	before := text(a) + text(b)
	l, e := pass.Merged(a, b)
	wantResult(t, before, l, e, want, wanted)
	for i := range l {
		l[i].By = "eve"
	}
	l, e = pass.Merged(b, a)
	wantResult(t, before, l, e, want, wanted)
	if now := text(a) + text(b); now != before {
		t.Error("modified", before, now)
	}
}

// P10.7: example 9, times that are equal, and entries that both logs have after others.
func TestMerged(t *testing.T) {
	l := exampleLog()
	wantMerged(t, with(l, "note ada 50 0 x"), with(l, "note bo 40 0 y"), with(l, "note bo 40 0 y", "note ada 50 0 x"), api.OK)
	wantMerged(t, with(l, "note bo 40 0 x"), with(l, "note ada 40 0 y"), with(l, "note ada 40 0 y", "note bo 40 0 x"), api.OK)
	wantMerged(t, with(l, "note ada 40 0 x"), with(l, "note ada 40 0 "), with(l, "note ada 40 0 ", "note ada 40 0 x"), api.OK)
	wantMerged(t, with(l, "note ada 40 0 x"), with(l, "measure bo 40 0 at 0 1 2"), with(l, "measure bo 40 0 at 0 1 2", "note ada 40 0 x"), api.OK) // by words, not by kinds
	wantMerged(t, with(l, "note ada 40 0 x"), with(l, "set ada 40 0 lock 1 1 1"), with(l, "note ada 40 0 x", "set ada 40 0 lock 1 1 1"), api.OK)
	wantMerged(t, with(l, "note ada 100 0 x"), with(l, "note ada 99 0 x"), with(l, "note ada 99 0 x", "note ada 100 0 x"), api.OK) // by times, not by their strings
	wantMerged(t, with(l, "note ada 40 0 x", "note ada 40 0 x"), with(l, "note ada 40 0 x"), with(l, "note ada 40 0 x", "note ada 40 0 x"), api.OK)
	wantMerged(t, with(l, "note ada 40 0 x", "note bo 50 0 z"), with(l, "note ada 45 0 y", "note bo 50 0 z"), with(l, "note ada 40 0 x", "note ada 45 0 y", "note bo 50 0 z"), api.OK)
	wantMerged(t, with(l, "note bo 50 0 z", "note ada 50 0 x"), with(l, "note ada 50 0 x"), with(l, "note ada 50 0 x", "note bo 50 0 z", "note ada 50 0 x"), api.OK) // equal ones only if both are next
	wantMerged(t, l, nil, l, api.OK)
	wantMerged(t, nil, nil, nil, api.OK)
}

// P10.7: the errors of both logs, and logs that are valid only alone.
func TestMergedErrors(t *testing.T) {
	l := exampleLog()
	for _, c := range []struct {
		a, b string
		want api.Errno
	}{
		{"end ada 40 0 ", "note ada 50 0 x", api.ErrState},
		{"end ada 40 0 ", "note ada 40 0 x", api.ErrState},
		{"join ada 40 1 ada", "set ada 41 0 lock 1 1 1", api.ErrAllowed},
		{"set ada 40 0 frames 4 2", "set ada 41 0 frames 24 4", api.OK},
		{"take bo 40 0 " + packet(1, 1, 1, 1), "take bo 40 0 " + packet(1, 1, 2, 2), api.ErrClash},
		{"take bo 40 0 " + packet(20, 1, 1, 1), "take bo 40 0 " + packet(1000, 1, 2, 2), api.ErrLarge},
	} {
		wantMerged(t, with(l, c.a), with(l, c.b), mergedByDefinition(with(l, c.a), with(l, c.b)), c.want)
	}
	wantMerged(t, with(l, "end ada 40 0 "), with(l, "note ada 39 0 x"), with(l, "note ada 39 0 x", "end ada 40 0 "), api.OK)
	wantMerged(t, with(l, "end ada 40 0 "), with(l, "end ada 40 0 "), with(l, "end ada 40 0 "), api.OK)
	wantMerged(t, with(nil, "join ada 0 2 ada"), with(nil, "join bo 0 2 bo"), nil, api.ErrAllowed)
	many := func(text string, count int) []api.PassEntry {
		return with(l, slices.Repeat([]string{"note ada 40 0 " + text}, count)...)
	}
	wantMerged(t, many("x", 28), many("y", 27), slices.Concat(many("x", 28), many("y", 27)[5:]), api.OK)
	wantMerged(t, many("x", 28), many("y", 28), nil, api.ErrLarge)
	wantMerged(t, many("x", 55), many("x", 55), many("x", 55), api.OK)
	wantMerged(t, many("x", 55), with(l, "end ada 30 0 "), nil, api.ErrLarge)
	first, second := with(l, "note eve 40 0 x"), with(l, "note ada 0 0 x")
	merged, e := pass.Merged(first, second)
	wantNoValue(t, "both", merged, e, api.ErrAllowed)
	merged, e = pass.Merged(second, first)
	wantNoValue(t, "both", merged, e, api.ErrOrder)
	merged, e = pass.Merged(l, make([]api.PassEntry, 61))
	wantNoValue(t, "large", merged, e, api.ErrLarge)
}

// P10.7, P10.12: random logs that begin alike, by definition, in both orders; a log merged with its beginnings is itself.
func TestMergedByDefinition(t *testing.T) {
	r := rand.New(rand.NewSource(9))
	counts := map[api.Errno]int{}
	for range 150 {
		a := randomLog(r, 30, quiet)
		b := slices.Clone(a[:r.Intn(len(a)+1)])
		for range r.Intn(25) {
			e := randomEntry(r, b)
			if r.Intn(3) == 0 && len(a) > 0 {
				e = a[r.Intn(len(a))]
			}
			if errorByDefinition(b, e) == api.OK && len(b) < 60 {
				b = append(b, e)
			}
		}
		want := mergedByDefinition(a, b)
		_, wanted := checkByDefinition(want)
		counts[wanted]++
		wantMerged(t, a, b, want, wanted)
		for i := range len(a) + 1 {
			wantMerged(t, a, a[:i], a, api.OK)
		}
	}
	if counts[api.OK] < 50 || counts[api.ErrAllowed] < 2 {
		t.Error(counts)
	}
}

// P10.6, P10.7: the strings that are compared are those of the journal.
func TestMergedStrings(t *testing.T) {
	l := exampleLog()
	texts := []string{"note ada 40 0 ", "note ada 40 0  ", "note ada 40 0 !", "note ada 40 0 a", "note ada 40 0 b", "note bo 40 0 a", "take bo 40 0 " + packet(1, 1, 1, 1)}
	for i, x := range texts {
		for j, y := range texts {
			want := with(l, x)
			if i < j {
				want = with(l, x, y)
			} else if i > j {
				want = with(l, y, x)
			}
			if i < j && strings.Compare(x, y) >= 0 {
				t.Error(x, y)
			}
			wantMerged(t, with(l, x), with(l, y), want, api.OK)
		}
	}
}
