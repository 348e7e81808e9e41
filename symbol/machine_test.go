package symbol_test

import (
	"math/rand"
	"slices"
	"testing"

	"cassegrain/api"
	"cassegrain/symbol"
)

const (
	found   = api.SymbolFound
	checked = api.SymbolChecked
	locked  = api.SymbolLocked
	missed  = api.SymbolMissed
	lost    = api.SymbolLost
)

// mark returns an upright mark without a displacement.
func mark(kind, at, wrong int) api.SymbolMark {
	return api.SymbolMark{Kind: kind, At: at, Wrong: wrong}
}

// moved returns an upright mark without wrong symbols.
func moved(kind, at, by int) api.SymbolMark {
	return api.SymbolMark{Kind: kind, At: at, Moved: by}
}

// inverted returns an inverted mark without wrong symbols or a displacement.
func inverted(kind, at int) api.SymbolMark {
	return api.SymbolMark{Kind: kind, At: at, Inverted: true}
}

// P4.5: example 8, its bits cut off at both sides, and inverted.
func TestMarksOfExample(t *testing.T) {
	const s = "0011 0101 0011 1101 0011 0101 0111 0101 0011 0101 0"
	want := []api.SymbolMark{mark(found, 0, 0), mark(checked, 8, 0), mark(locked, 16, 0), mark(missed, 24, 1), mark(locked, 32, 0)}
	got, e := symbol.Marks(goodRules(), clearly(s))
	wantSlice(t, s, got, e, want)
	frames, e := symbol.Frames(goodRules(), clearly(s))
	wantError(t, s, e, api.OK)
	wantFrames(t, s, frames, []api.SymbolFrame{
		{At: 0, Soft: clearly("0101")}, {At: 8, Soft: clearly("1101")}, {At: 16, Soft: clearly("0101")}, {At: 24, Soft: clearly("0101")},
	})
	for end := range len(clearly(s)) + 1 { // a marker is expected if it could also be displaced by one symbol
		n := 0
		for n < len(want) && (n == 0 && end >= 4 || n > 0 && end >= want[n].At+5) {
			n++
		}
		got, e := symbol.Marks(goodRules(), clearly(s)[:end])
		wantSlice(t, end, got, e, want[:n])
	}
}

// P4.5: each phase of the machine, and the edge cases.
func TestMarks(t *testing.T) {
	rules := func(verify, fly, slip int) api.SymbolRules {
		return api.SymbolRules{Marker: bits("0011"), Length: 8, Verify: verify, Fly: fly, Slip: slip}
	}
	for name, c := range map[string]struct {
		rules api.SymbolRules
		bits  string
		want  []api.SymbolMark
	}{
		"nothing":              {rules(1, 0, 0), "", nil},
		"no marker":            {rules(1, 0, 0), "0101 0101 0101", nil},
		"one marker":           {rules(1, 0, 0), "0101 0011 0101", []api.SymbolMark{mark(found, 4, 0)}},
		"lock at once":         {rules(1, 0, 0), "0011 0101 0011 0101", []api.SymbolMark{mark(found, 0, 0), mark(locked, 8, 0)}},
		"three in succession":  {rules(3, 0, 0), "0011 0101 0011 0101 0011 0101 0011 0101", []api.SymbolMark{mark(found, 0, 0), mark(checked, 8, 0), mark(checked, 16, 0), mark(locked, 24, 0)}},
		"lost in check":        {rules(2, 5, 0), "0011 0101 0101 0101", []api.SymbolMark{mark(found, 0, 0), mark(lost, 8, 2)}},
		"lost after a check":   {rules(3, 5, 0), "0011 0101 0011 0101 0101 0101", []api.SymbolMark{mark(found, 0, 0), mark(checked, 8, 0), mark(lost, 16, 2)}},
		"found before":         {rules(2, 0, 0), "0011 01 0011 0101 0011 01", []api.SymbolMark{mark(found, 0, 0), mark(lost, 8, 3), mark(found, 6, 0), mark(checked, 14, 0)}},
		"no miss":              {rules(1, 0, 0), "0011 0101 0101 0101 0011 0101", []api.SymbolMark{mark(found, 0, 0), mark(lost, 8, 2), mark(found, 16, 0)}},
		"one miss":             {rules(1, 1, 0), "0011 0101 0101 0101 0011 0101 0111 0101", []api.SymbolMark{mark(found, 0, 0), mark(missed, 8, 2), mark(locked, 16, 0), mark(missed, 24, 1)}},
		"two misses":           {rules(1, 1, 0), "0011 0101 0101 0101 0001 0101 0011 0101", []api.SymbolMark{mark(found, 0, 0), mark(missed, 8, 2), mark(lost, 16, 1), mark(found, 24, 0)}},
		"search where lost":    {rules(1, 0, 0), "0011 0101 1100 0101 1100 01", []api.SymbolMark{mark(found, 0, 0), mark(lost, 8, 4), inverted(found, 8), inverted(locked, 16)}},
		"misses begin again":   {rules(2, 1, 0), "0011 0101 0011 0101 0101 0101 0101 0101 0011 0101 0011 0101 0101 0101 0011", []api.SymbolMark{mark(found, 0, 0), mark(checked, 8, 0), mark(missed, 16, 2), mark(lost, 24, 2), mark(found, 32, 0), mark(checked, 40, 0), mark(missed, 48, 2), mark(locked, 56, 0)}},
		"inverted":             {rules(2, 1, 0), "1100 0101 1100 0101 0011 0101 1100", []api.SymbolMark{inverted(found, 0), inverted(checked, 8), {Kind: missed, At: 16, Inverted: true, Wrong: 4}, inverted(locked, 24)}},
		"one before":           {rules(2, 0, 1), "0011 010 0011 0101 0011 0101", []api.SymbolMark{mark(found, 0, 0), moved(checked, 7, -1), mark(locked, 15, 0)}},
		"one after":            {rules(2, 0, 1), "0011 01010 0011 0101 0011 0101", []api.SymbolMark{mark(found, 0, 0), moved(checked, 9, 1), mark(locked, 17, 0)}},
		"one, then another":    {rules(1, 0, 1), "0011 01010 0011 01010 0011 010 0011 0101", []api.SymbolMark{mark(found, 0, 0), moved(locked, 9, 1), moved(locked, 18, 1), moved(locked, 25, -1)}},
		"too far":              {rules(2, 0, 1), "0011 010101 0011 0101", []api.SymbolMark{mark(found, 0, 0), mark(lost, 8, 3), mark(found, 10, 0)}},
		"slips at the end":     {rules(1, 0, 3), "0011 0101 0011 010", []api.SymbolMark{mark(found, 0, 0), mark(locked, 8, 0)}},
		"no slips at the end":  {rules(1, 0, 3), "0011 0101 0011 01", []api.SymbolMark{mark(found, 0, 0)}},
		"the end of the check": {rules(2, 0, 0), "0011 0101 001", []api.SymbolMark{mark(found, 0, 0)}},
	} {
		got, e := symbol.Marks(c.rules, clearly(c.bits))
		wantSlice(t, name, got, e, c.want)
	}
}

// P4.5: all displacements are tried in their order, and no others.
func TestDisplacements(t *testing.T) {
	order := []int{0, -1, 1, -2, 2, -3, 3}
	for slip := range 4 {
		rules := api.SymbolRules{Marker: []int{0}, Length: 5, Verify: 1, Slip: slip}
		for there := range 1 << len(order) {
			soft := []int{1, -1, -1, -1, -1, -1, -1, -1, -1}
			want := mark(lost, 5, 1)
			for i := len(order) - 1; i >= 0; i-- {
				if there>>i&1 == 1 {
					soft[5+order[i]] = 1
					if i <= 2*slip {
						want = moved(locked, 5+order[i], order[i])
					}
				}
			}
			got, e := symbol.Marks(rules, soft[:6+slip])
			wantError(t, soft, e, api.OK)
			if len(got) < 2 || got[0] != mark(found, 0, 0) || got[1] != want {
				t.Error(slip, soft, got, want)
			}
		}
	}
}

// P4.5: of two displacements the first one is taken, even if fewer symbols are wrong with the second one.
func TestDisplacedWithWrongSymbols(t *testing.T) {
	rules := api.SymbolRules{Marker: bits("00011"), Length: 9, Errors: 1, Verify: 1, Slip: 1}
	const s = "00011 1010 00001 1 101 0"
	got, e := symbol.Marks(rules, clearly(s))
	wantSlice(t, s, got, e, []api.SymbolMark{mark(found, 0, 0), mark(locked, 9, 1)})
	frames, e := symbol.Frames(rules, clearly(s))
	wantError(t, s, e, api.OK)
	wantFrames(t, s, frames, []api.SymbolFrame{{Soft: clearly("1010")}})
}

// P4.5: frames with fewer and more symbols, inverted ones, a missed marker, and none where the search begins again.
func TestFrames(t *testing.T) {
	rules := api.SymbolRules{Marker: bits("0011"), Length: 8, Verify: 1, Fly: 1, Slip: 1}
	for _, c := range []struct {
		soft []int
		want []api.SymbolFrame
	}{
		{clearly("0011 0101 0011 010 0011 01010 0011 0101"), []api.SymbolFrame{
			{At: 0, Soft: clearly("0101")},
			{At: 8, Moved: -1, Soft: clearly("010")},
			{At: 15, Moved: 1, Soft: clearly("01010")},
		}},
		{[]int{-1, -2, 3, 4, 5, -6, 7, 0, -7, -1, 1, 1, 2}, []api.SymbolFrame{
			{At: 0, Inverted: true, Soft: []int{-5, 6, -7, 0}},
		}},
		{clearly("1100 0101 0101 0111 1100 1"), []api.SymbolFrame{
			{At: 0, Inverted: true, Soft: clearly("1010")},
			{At: 8, Inverted: true, Soft: clearly("1000")},
		}},
		{clearly("0011 0101 0101 0111 0101 1111 1100 0101 1100 1"), []api.SymbolFrame{
			{At: 0, Soft: clearly("0101")},
			{At: 24, Inverted: true, Soft: clearly("1010")},
		}},
		{clearly("0011 0101"), nil},
		{nil, nil},
	} {
		got, e := symbol.Frames(rules, c.soft)
		wantError(t, c.soft, e, api.OK)
		wantFrames(t, c.soft, got, c.want)
	}
}

// P4.5: marks and frames by the definition. P4.9: with opposite signs they are the same, but for the inversion. P4.12: positions ascend.
func TestMarksByDefinition(t *testing.T) {
	r := rand.New(rand.NewSource(13))
	kinds := map[int]int{}
	for range 5000 {
		rules := randomRules(r)
		soft := randomStream(r, rules)
		before, kept := slices.Clone(soft), slices.Clone(rules.Marker)
		want := marksByDefinition(rules, soft)
		isLost := func(m api.SymbolMark) bool { return m.Kind == lost }
		if rules.Verify == 1 && rules.Fly > 0 && slices.ContainsFunc(want, isLost) {
			continue // the chapter does not say that a lock which begins without a check begins without misses
		}
		marks, e := symbol.Marks(rules, soft)
		wantSlice(t, rules, marks, e, want)
		frames, e := symbol.Frames(rules, soft)
		wantError(t, rules, e, api.OK)
		wantFrames(t, rules, frames, framesByDefinition(rules, soft))
		wantAscending(t, rules, marks)
		for i := range marks {
			kinds[marks[i].Kind]++
			marks[i].Inverted = !marks[i].Inverted
		}
		got, e := symbol.Marks(rules, opposite(soft))
		wantSlice(t, rules, got, e, marks)
		for i := range frames {
			frames[i].Inverted = !frames[i].Inverted
		}
		other, e := symbol.Frames(rules, opposite(soft))
		wantError(t, rules, e, api.OK)
		wantFrames(t, rules, other, frames)
		wantSame(t, "the soft symbols", soft, before)
		wantSame(t, "the marker", rules.Marker, kept)
	}
	for kind := range api.SymbolKinds {
		if kinds[kind] < 500 {
			t.Error("too few marks of the kind", kind, kinds[kind])
		}
	}
}

// wantAscending reports marks whose positions do not ascend, but for a search that begins again: after the last marker, or where it was expected.
func wantAscending(t *testing.T, rules api.SymbolRules, marks []api.SymbolMark) {
	t.Helper()
	for i := 1; i < len(marks); i++ {
		least := marks[i-1].At + 1
		if marks[i-1].Kind == lost {
			least = marks[i-2].At + 1
		}
		if marks[i].At < least || (marks[i].Kind == found) != (marks[i-1].Kind == lost) {
			t.Fatal(rules, marks, i)
		}
	}
}

// regularStream returns frames of the length of rules, each with its marker, in which at most Errors symbols are wrong, and the symbols of the frames alone.
func regularStream(r *rand.Rand, rules api.SymbolRules, count int) (soft []int, contents [][]int) {
	for range count {
		for i, n := range numbers(r, len(rules.Marker), 1, 7) {
			soft = append(soft, n*(1-2*rules.Marker[i]))
		}
		marker := soft[len(soft)-len(rules.Marker):]
		for _, i := range r.Perm(len(marker))[:between(r, 0, rules.Errors)] {
			marker[i] = -marker[i] * r.Intn(2)
		}
		contents = append(contents, numbers(r, rules.Length-len(rules.Marker), -7, 7))
		soft = append(soft, contents[len(contents)-1]...)
	}
	return soft, contents
}

// P4.11: the marks and the frames of regular streams.
func TestRegularStreams(t *testing.T) {
	r := rand.New(rand.NewSource(14))
	regular := 0
	for range 2000 {
		rules := api.SymbolRules{Marker: numbers(r, between(r, 6, 32), 0, 1), Verify: between(r, 1, 5), Fly: between(r, 0, 5), Slip: between(r, 0, 3)}
		rules.Errors = between(r, 0, len(rules.Marker)/6)
		rules.Length = between(r, len(rules.Marker)+rules.Slip+1, 60)
		count := between(r, 0, 10)
		soft, contents := regularStream(r, rules, count)
		if len(foundByDefinition(rules, soft)) != count {
			continue // a marker is also found elsewhere
		}
		regular++
		marks, e := symbol.Marks(rules, soft)
		wantError(t, rules, e, api.OK)
		if len(marks) != count {
			t.Fatal(rules, soft, marks)
		}
		for i, m := range marks {
			kind := locked
			if i == 0 {
				kind = found
			} else if i < rules.Verify {
				kind = checked
			}
			if m.Kind != kind || m.At != i*rules.Length || m.Inverted || m.Moved != 0 || m.Wrong > rules.Errors {
				t.Fatal(rules, soft, marks, i)
			}
		}
		var want []api.SymbolFrame
		for i := range max(count-1, 0) {
			want = append(want, api.SymbolFrame{At: i * rules.Length, Soft: contents[i]})
		}
		frames, e := symbol.Frames(rules, soft)
		wantError(t, rules, e, api.OK)
		wantFrames(t, rules, frames, want)
	}
	if regular < 500 {
		t.Error("too few regular streams", regular)
	}
}

// P4.5: the longest markers, frames and streams.
func TestLongStreams(t *testing.T) {
	rules := api.SymbolRules{Marker: bits("00011010 11001111 11111100 00011101"), Length: 200, Errors: 15, Verify: 5, Fly: 5, Slip: 3}
	soft := make([]int, 600)
	for i := range soft {
		soft[i] = 1
		if i%200 < 32 {
			soft[i] = 7 - 14*rules.Marker[i%200]
		}
	}
	got, e := symbol.FindMarkers(rules, soft)
	wantSlice(t, "a long stream", got, e, foundByDefinition(rules, soft))
	got, e = symbol.Marks(rules, soft)
	wantSlice(t, "a long stream", got, e, marksByDefinition(rules, soft))
	frames, e := symbol.Frames(rules, soft)
	wantError(t, "a long stream", e, api.OK)
	wantFrames(t, "a long stream", frames, framesByDefinition(rules, soft))

	one := api.SymbolRules{Marker: []int{1}, Length: 2, Verify: 1}
	got, e = symbol.Marks(one, slices.Repeat([]int{-1, 0}, 300))
	wantError(t, "many markers", e, api.OK)
	if len(got) != 300 || got[0] != mark(found, 0, 0) || got[299] != mark(locked, 598, 0) {
		t.Error(got)
	}
	got, e = symbol.Marks(one, slices.Repeat([]int{-1, 1, 1}, 200)) // every marker is lost at once
	wantSlice(t, "many searches", got, e, marksByDefinition(one, slices.Repeat([]int{-1, 1, 1}, 200)))
}

// R3: the symbols of frames are memory of their own.
func TestOwnMemory(t *testing.T) {
	soft := clearly("0011 0101 0011 1101 0011 0101 0")
	before := slices.Clone(soft)
	frames, _ := symbol.Frames(goodRules(), soft)
	if len(frames) != 2 {
		t.Fatal(frames)
	}
	_ = append(frames[0].Soft, 5)
	clear(frames[0].Soft)
	wantSame(t, "the other frame", frames[1].Soft, clearly("1101"))
	wantSame(t, "the soft symbols", soft, before)
}
