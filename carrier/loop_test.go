package carrier_test

import (
	"math"
	"math/rand"
	"slices"
	"strings"
	"testing"

	"cassegrain/api"
	"cassegrain/carrier"
)

const tick = 1000000000000

func state(phase, frequency int) api.CarrierState {
	return api.CarrierState{Phase: phase, Frequency: frequency}
}

// P3.4: the limits of loops, and their states at the beginning.
func TestCheckLoop(t *testing.T) {
	for _, l := range badLoops() {
		wantError(t, l, carrier.CheckLoop(l), api.ErrRange)
		x, e := carrier.Begin(l)
		wantError(t, l, e, api.ErrRange)
		if x != (api.CarrierState{}) {
			t.Error(l, x)
		}
	}
	for _, l := range []api.CarrierLoop{
		goodLoop(), {Den: 1}, {First: 1000, Second: 1000, Den: 1000, Frequency: 2047}, {Den: 1, Frequency: -2048},
	} {
		wantError(t, l, carrier.CheckLoop(l), api.OK)
		if x, e := carrier.Begin(l); e != api.OK || x != state(0, l.Frequency) {
			t.Error(l, x, e)
		}
	}
}

// badStates returns states that are not valid: all are ErrRange.
func badStates() []api.CarrierState {
	var l []api.CarrierState
	for _, n := range badNumbers(-tick, tick) {
		l = append(l, state(n, 0))
	}
	for _, n := range badNumbers(-2048, 2047) {
		l = append(l, state(0, n))
	}
	return l
}

// P3.4: the limits of states.
func TestCheckState(t *testing.T) {
	for _, x := range badStates() {
		wantError(t, x, carrier.CheckState(goodLoop(), x), api.ErrRange)
	}
	for _, l := range badLoops() {
		wantError(t, l, carrier.CheckState(l, state(0, 0)), api.ErrRange)
	}
	for _, x := range []api.CarrierState{state(0, 0), state(tick, 2047), state(-tick, -2048)} {
		wantError(t, x, carrier.CheckState(goodLoop(), x), api.OK)
	}
}

// P3.4: example 5, rounding down, limited frequencies, and errors of half a turn.
func TestAdvance(t *testing.T) {
	loop := func(first, second, den int) api.CarrierLoop {
		return api.CarrierLoop{First: first, Second: second, Den: den, Frequency: 77} // the state has a frequency of its own
	}
	for _, c := range []struct {
		l     api.CarrierLoop
		x     api.CarrierState
		phase int
		want  api.CarrierState
		e     int
	}{
		{loop(1, 0, 2), state(0, 0), 100, state(50, 0), 100},
		{loop(1, 0, 2), state(50, 0), 100, state(75, 0), 50},
		{loop(1, 0, 2), state(0, 0), 4000, state(-48, 0), -96},
		{loop(1, 0, 2), state(0, 0), 4095, state(-1, 0), -1},
		{loop(1, 0, 2), state(0, 0), 4093, state(-2, 0), -3},
		{loop(1, 0, 2), state(0, 0), 1, state(0, 0), 1},
		{loop(0, 1, 2), state(0, 0), 4095, state(-1, -1), -1},
		{loop(0, 1, 3), state(0, 9), 4095, state(8, 8), -1},
		{loop(0, 1, 3), state(0, 9), 2, state(9, 9), 2},
		{loop(1, 1, 3), state(0, 0), 10, state(6, 3), 10},
		{loop(2, 3, 4), state(1000, 10), 1011, state(1023, 18), 11},
		{loop(0, 0, 1), state(0, 33), 4000, state(33, 33), -96},
		{loop(0, 0, 1), state(0, 0), 2047, state(0, 0), 2047},
		{loop(0, 0, 1), state(0, 0), 2048, state(0, 0), -2048},
		{loop(0, 0, 1), state(-1, 0), 2047, state(-1, 0), -2048},
		{loop(0, 0, 1), state(4096*5+7, 0), 7, state(4096*5+7, 0), 0},
		{loop(0, 0, 1), state(-4096*5-7, 1), 0, state(-4096*5-6, 1), 7},
		{loop(0, 1000, 1), state(0, 0), 3, state(2047, 2047), 3},
		{loop(1, 1000, 1), state(0, 2047), 1, state(2048, 2047), 1},
		{loop(1, 1000, 1), state(0, -2048), 4095, state(-2049, -2048), -1},
		{loop(0, 1, 1), state(0, 2000), 47, state(2047, 2047), 47},
		{loop(0, 1, 1), state(0, 2000), 48, state(2047, 2047), 48},
		{loop(0, 1, 1), state(0, -2000), 4096 - 48, state(-2048, -2048), -48},
		{loop(0, 1, 1), state(0, -2000), 4096 - 49, state(-2048, -2048), -49},
		{loop(1000, 1000, 1), state(0, 0), 2048, state(-2050048, -2048), -2048},
		{loop(1, 0, 1), state(tick, 0), 0, state(tick, 0), 0},
	} {
		c.phase = remainder(c.phase, 4096)
		if c.x.Phase == tick {
			c.phase = remainder(tick, 4096)
		}
		if x, e, errno := carrier.Advance(c.l, c.x, c.phase); errno != api.OK || x != c.want || e != c.e {
			t.Error(c, x, e, errno)
		}
	}
}

// P3.4: next states by the definition, with phases of any size.
func TestAdvanceByDefinition(t *testing.T) {
	r := rand.New(rand.NewSource(12))
	for range 3000 {
		l, x, phase := randomLoop(r), state(between(r, -tick, tick), between(r, -2048, 2047)), r.Intn(4096)
		if r.Intn(2) == 0 {
			l.First, l.Second = l.First%20, l.Second%20
		}
		want := errorByDefinition(x, phase)
		next := nextByDefinition(l, x, want)
		if next.Phase < -tick || next.Phase > tick {
			continue
		}
		if got, e, errno := carrier.Advance(l, x, phase); errno != api.OK || got != next || e != want {
			t.Fatal(l, x, phase, got, e, errno, next, want)
		}
	}
}

// P3.4: the errors of a loop, a state and a phase, and phases that become too great.
func TestAdvanceErrors(t *testing.T) {
	wantNone := func(l api.CarrierLoop, x api.CarrierState, phase int, want api.Errno) {
		t.Helper()
		next, n, e := carrier.Advance(l, x, phase)
		wantError(t, x, e, want)
		if next != (api.CarrierState{}) || n != 0 {
			t.Error(l, x, phase, next, n)
		}
	}
	for _, l := range badLoops() {
		wantNone(l, state(0, 0), 5, api.ErrRange)
	}
	for _, x := range badStates() {
		wantNone(goodLoop(), x, 5, api.ErrRange)
	}
	for _, phase := range badNumbers(0, 4095) {
		wantNone(goodLoop(), state(0, 0), phase, api.ErrRange)
		wantNone(goodLoop(), state(tick, 2047), phase, api.ErrRange) // before the next phase
	}
	still := api.CarrierLoop{Den: 1}
	wantNone(still, state(tick, 1), 5, api.ErrLarge)
	wantNone(still, state(-tick, -1), 5, api.ErrLarge)
	wantNone(still, state(tick-2046, 2047), 5, api.ErrLarge)
	for _, x := range []api.CarrierState{state(tick, 0), state(-tick, 0), state(tick-1, 1), state(1-tick, -1), state(tick, -2048), state(-tick, 2047)} {
		if next, _, e := carrier.Advance(still, x, 5); e != api.OK || next != state(x.Phase+x.Frequency, x.Frequency) {
			t.Error(x, next, e)
		}
	}
	phase := remainder(tick+1, 4096)
	if next, _, e := carrier.Advance(api.CarrierLoop{First: 1, Den: 2}, state(tick, 0), phase); e != api.OK || next != state(tick, 0) {
		t.Error(next, e)
	}
	wantNone(api.CarrierLoop{First: 1, Den: 1}, state(tick, 0), phase, api.ErrLarge)
}

// P3.4: example 5, no phases, and loops without gain.
func TestTrack(t *testing.T) {
	for _, c := range []struct {
		l      api.CarrierLoop
		phases []int
		states []api.CarrierState
		errors []int
	}{
		{goodLoop(), []int{100, 100, 100}, []api.CarrierState{state(0, 0), state(50, 0), state(75, 0)}, []int{100, 50, 25}},
		{goodLoop(), []int{4000, 4000}, []api.CarrierState{state(0, 0), state(-48, 0)}, []int{-96, -48}},
		{goodLoop(), nil, nil, nil},
		{api.CarrierLoop{Den: 9, Frequency: -7}, []int{0, 100, 4090}, []api.CarrierState{state(0, -7), state(-7, -7), state(-14, -7)}, []int{0, 107, 8}},
		{api.CarrierLoop{First: 1, Second: 1, Den: 2, Frequency: 3}, []int{10, 20, 0}, []api.CarrierState{state(0, 3), state(13, 8), state(27, 11)}, []int{10, 7, -27}},
	} {
		states, errors, e := carrier.Track(c.l, c.phases)
		wantError(t, c, e, api.OK)
		wantSame(t, c, states, c.states)
		wantSame(t, c, errors, c.errors)
	}
}

// P3.4, P3.13: tracks by the definition, and by advancing from a state within them.
func TestTrackByDefinition(t *testing.T) {
	r := rand.New(rand.NewSource(13))
	for i := range 300 {
		l, phases := randomLoop(r), randomPhases(r, between(r, 1, 200))
		if i == 0 {
			l, phases = api.CarrierLoop{First: 1000, Second: 1000, Den: 1, Frequency: -2048}, randomPhases(r, 200)
		}
		before := slices.Clone(phases)
		states, errors, e := carrier.Track(l, phases)
		wantError(t, l, e, api.OK)
		wantStates, wantErrors := trackByDefinition(l, phases)
		wantSame(t, l, states, wantStates)
		wantSame(t, l, errors, wantErrors)
		at := r.Intn(len(phases))
		firstStates, firstErrors, e := carrier.Track(l, phases[:at])
		wantError(t, l, e, api.OK)
		x, e := carrier.Begin(l)
		wantError(t, l, e, api.OK)
		if at > 0 {
			x, _, e = carrier.Advance(l, firstStates[at-1], phases[at-1])
			wantError(t, l, e, api.OK)
		}
		for _, phase := range phases[at:] {
			next, n, e := carrier.Advance(l, x, phase)
			wantError(t, l, e, api.OK)
			firstStates, firstErrors = append(firstStates, x), append(firstErrors, n)
			x = next
		}
		wantSame(t, l, firstStates, states)
		wantSame(t, l, firstErrors, errors)
		clear(errors)
		wantSame(t, "the phases", phases, before)
	}
}

// P3.4: cycle slips at the first sample, on the borders, upwards and downwards.
func TestSlipsOf(t *testing.T) {
	still := api.CarrierLoop{Den: 1}
	for _, c := range []struct {
		l             api.CarrierLoop
		truth, phases []int
		want          []int
	}{
		{still, []int{2047, 2047}, []int{0, 0}, nil},
		{still, []int{2048, 2048}, []int{0, 0}, []int{0}},
		{still, []int{-2048, -2048}, []int{0, 0}, nil},
		{still, []int{-2049, -2049}, []int{0, 0}, []int{0}},
		{still, []int{0, 2048, 6143, 6144, 2048, 2047, -2048, -2049}, make([]int, 8), []int{1, 3, 4, 5, 7}},
		{still, []int{0, 100000, 100000, 0}, make([]int, 4), []int{1, 3}},
		{still, []int{tick, -tick}, []int{0, 0}, []int{0, 1}},
		{api.CarrierLoop{Den: 1, Frequency: 1000}, []int{0, 0, 0, 0, 0}, make([]int, 5), []int{3}},
		{api.CarrierLoop{Den: 1, Frequency: -1024}, []int{0, 0, 0, 0}, make([]int, 4), []int{2}},
		{goodLoop(), []int{0, 1000, 2000, 3000, 4000}, []int{0, 1000, 2000, 3000, 4000}, nil},
		{goodLoop(), []int{2100, 2100}, []int{2100, 2100}, []int{0}},
		{goodLoop(), nil, nil, nil},
	} {
		got, e := carrier.SlipsOf(c.l, c.phases, c.truth)
		wantError(t, c, e, api.OK)
		wantSame(t, c, got, c.want)
	}
}

// P3.4: cycle slips by the definition.
func TestSlipsByDefinition(t *testing.T) {
	r := rand.New(rand.NewSource(14))
	slipped := 0
	for range 300 {
		l, phases := randomLoop(r), randomPhases(r, r.Intn(60))
		var truth []int
		total := between(r, -3000, 3000)
		for range phases {
			truth = append(truth, total)
			total += between(r, -1500, 1500)
		}
		beforePhases, beforeTruth := slices.Clone(phases), slices.Clone(truth)
		var want []int
		states, _ := trackByDefinition(l, phases)
		turns := 0
		for n, x := range states {
			if now := roundedDown(truth[n]-x.Phase+2048, 4096); now != turns {
				want = append(want, n)
				turns = now
			}
		}
		got, e := carrier.SlipsOf(l, phases, truth)
		wantError(t, l, e, api.OK)
		wantSame(t, l, got, want)
		slipped += len(got)
		wantSame(t, "the phases", phases, beforePhases)
		wantSame(t, "the truth", truth, beforeTruth)
	}
	if slipped == 0 {
		t.Error("no slip was tested")
	}
}

// P3.4: the errors of a loop, phases and a truth.
func TestSlipsErrors(t *testing.T) {
	wantNone := func(l api.CarrierLoop, phases, truth []int, want api.Errno) {
		t.Helper()
		got, e := carrier.SlipsOf(l, phases, truth)
		wantError(t, truth, e, want)
		wantSame(t, truth, got, nil)
	}
	for _, l := range badLoops() {
		wantNone(l, []int{0}, []int{0}, api.ErrRange)
		wantNone(l, make([]int, 201), nil, api.ErrRange) // before those of the phases
	}
	for _, c := range badPhases() {
		wantNone(goodLoop(), c.value, make([]int, len(c.value)), c.want)
		wantNone(goodLoop(), c.value, nil, c.want) // before the shape
	}
	wantNone(goodLoop(), []int{1, 2}, []int{1}, api.ErrShape)
	wantNone(goodLoop(), []int{1, 2}, []int{1, 2, 3}, api.ErrShape)
	wantNone(goodLoop(), nil, []int{0}, api.ErrShape)
	wantNone(goodLoop(), []int{1}, nil, api.ErrShape)
	wantNone(goodLoop(), []int{1, 2}, []int{tick + 1}, api.ErrShape) // before the range
	for _, n := range badNumbers(-tick, tick) {
		wantNone(goodLoop(), []int{1, 2}, []int{5000, n}, api.ErrRange)
	}
}

// P3.4: loops whose phases differ by less than the threshold, by it, and by more.
func TestDisagreements(t *testing.T) {
	loops := func(a, b int) [2]api.CarrierLoop {
		return [2]api.CarrierLoop{{Den: 1, Frequency: a}, {Den: 1, Frequency: b}}
	}
	for _, c := range []struct {
		loops     [2]api.CarrierLoop
		count     int
		threshold int
		want      []int
	}{
		{loops(0, 10), 6, 30, []int{3, 4, 5}},
		{loops(10, 0), 6, 30, []int{3, 4, 5}},
		{loops(0, 10), 6, 31, []int{4, 5}},
		{loops(0, 10), 6, 1, []int{1, 2, 3, 4, 5}},
		{loops(0, 10), 6, 51, nil},
		{loops(7, 7), 200, 1, nil},
		{loops(-2048, 2047), 200, 814905, []int{199}},
		{loops(-2048, 2047), 200, tick, nil},
		{loops(0, 10), 0, 1, nil},
	} {
		got, e := carrier.Disagreements(c.loops, make([]int, c.count), c.threshold)
		wantError(t, c, e, api.OK)
		wantSame(t, c, got, c.want)
	}
	still := api.CarrierLoop{Den: 1}
	got, e := carrier.Disagreements([2]api.CarrierLoop{goodLoop(), still}, []int{100, 100, 100, 0, 3900}, 50) // the phases 0, 50, 75, 87, 43
	wantError(t, "example 5", e, api.OK)
	wantSame(t, "example 5", got, []int{1, 2, 3})
}

// P3.4: disagreements by the definition.
func TestDisagreementsByDefinition(t *testing.T) {
	r := rand.New(rand.NewSource(15))
	for range 200 {
		loops := [2]api.CarrierLoop{randomLoop(r), randomLoop(r)}
		phases, threshold := randomPhases(r, r.Intn(80)), between(r, 1, 40000)
		before := slices.Clone(phases)
		var want []int
		first, _ := trackByDefinition(loops[0], phases)
		second, _ := trackByDefinition(loops[1], phases)
		for n := range phases {
			if d := first[n].Phase - second[n].Phase; d >= threshold || -d >= threshold {
				want = append(want, n)
			}
		}
		got, e := carrier.Disagreements(loops, phases, threshold)
		wantError(t, loops, e, api.OK)
		wantSame(t, loops, got, want)
		clear(got)
		wantSame(t, "the phases", phases, before)
	}
}

// P3.4: the errors of two loops, phases and a threshold.
func TestDisagreementsErrors(t *testing.T) {
	wantNone := func(a, b api.CarrierLoop, phases []int, threshold int, want api.Errno) {
		t.Helper()
		got, e := carrier.Disagreements([2]api.CarrierLoop{a, b}, phases, threshold)
		wantError(t, threshold, e, want)
		wantSame(t, threshold, got, nil)
	}
	for _, l := range badLoops() {
		wantNone(l, goodLoop(), []int{0}, 1, api.ErrRange)
		wantNone(goodLoop(), l, []int{0}, 1, api.ErrRange)
		wantNone(l, goodLoop(), make([]int, 201), 1, api.ErrRange) // before those of the phases
		wantNone(goodLoop(), l, make([]int, 201), 1, api.ErrRange)
	}
	for _, c := range badPhases() {
		wantNone(goodLoop(), goodLoop(), c.value, 1, c.want)
		wantNone(goodLoop(), goodLoop(), c.value, 0, c.want) // before that of the threshold
	}
	for _, n := range badNumbers(1, tick) {
		wantNone(goodLoop(), goodLoop(), []int{0}, n, api.ErrRange)
	}
}

// P3.4: the errors of a loop and phases.
func TestTrackErrors(t *testing.T) {
	wantNone := func(l api.CarrierLoop, phases []int, want api.Errno) {
		t.Helper()
		states, errors, e := carrier.Track(l, phases)
		wantError(t, l, e, want)
		wantSame(t, l, states, nil)
		wantSame(t, l, errors, nil)
	}
	for _, l := range badLoops() {
		wantNone(l, []int{0}, api.ErrRange)
		wantNone(l, make([]int, 201), api.ErrRange)
	}
	for _, c := range badPhases() {
		wantNone(goodLoop(), c.value, c.want)
	}
}

// P3.8: strings of loops, also of those that are not valid.
func TestFormatLoop(t *testing.T) {
	for want, l := range map[string]api.CarrierLoop{
		"1 0 2 0":                   goodLoop(),
		"1 2 3 4":                   {First: 1, Second: 2, Den: 3, Frequency: 4},
		"1000 999 1000 -2048":       {First: 1000, Second: 999, Den: 1000, Frequency: -2048},
		"-1 0 0 -100000":            {First: -1, Frequency: -100000},
		"0 0 0 9223372036854775807": {Frequency: math.MaxInt},
	} {
		if s := carrier.FormatLoop(l); s != want {
			t.Errorf("%q, want %q", s, want)
		}
	}
}

// P3.8: strings that are no loops.
func TestParseLoopErrors(t *testing.T) {
	for s, want := range map[string]api.Errno{
		"":                       api.ErrSyntax,
		"1 0 2":                  api.ErrSyntax,
		"1 0 2 0 0":              api.ErrSyntax,
		"1 0 2 0 ":               api.ErrSyntax,
		" 1 0 2 0":               api.ErrSyntax,
		"1  0 2 0":               api.ErrSyntax,
		"1,0,2,0":                api.ErrSyntax,
		"1 0 2 0\n":              api.ErrSyntax,
		"-1 0 2 0":               api.ErrSyntax,
		"1 -1 2 0":               api.ErrSyntax,
		"1 0 -2 0":               api.ErrSyntax,
		"1 -0 2 0":               api.ErrSyntax,
		"1 0 2 -0":               api.ErrSyntax,
		"1 0 2 +1":               api.ErrSyntax,
		"01 0 2 0":               api.ErrSyntax,
		"1 0 02 0":               api.ErrSyntax,
		"1 0 2 00":               api.ErrSyntax,
		"10000 0 2 0":            api.ErrSyntax,
		"1 0 2 -10000":           api.ErrSyntax,
		"1 0 2 x":                api.ErrSyntax,
		"1 0 2 -":                api.ErrSyntax,
		strings.Repeat("1 ", 99): api.ErrSyntax,
		"9999 0 2 x":             api.ErrSyntax, // before the error of the loop
		"1001 0 2 0":             api.ErrRange,
		"1 1001 2 0":             api.ErrRange,
		"1 0 0 0":                api.ErrRange,
		"1 0 1001 0":             api.ErrRange,
		"1 0 2 2048":             api.ErrRange,
		"1 0 2 -2049":            api.ErrRange,
	} {
		l, e := carrier.ParseLoop(s)
		wantError(t, s, e, want)
		if l != (api.CarrierLoop{}) {
			t.Errorf("%q: %v", s, l)
		}
	}
}

// P3.8, P3.15: example 10, and the strings of valid loops.
func TestLoopReversed(t *testing.T) {
	if l, e := carrier.ParseLoop("1 0 2 0"); e != api.OK || l != goodLoop() {
		t.Error(l, e)
	}
	most := api.CarrierLoop{First: 1000, Second: 1000, Den: 1000, Frequency: -2048}
	if l, e := carrier.ParseLoop("1000 1000 1000 -2048"); e != api.OK || l != most {
		t.Error(l, e)
	}
	r := rand.New(rand.NewSource(16))
	for range 500 {
		l := randomLoop(r)
		if back, e := carrier.ParseLoop(carrier.FormatLoop(l)); e != api.OK || back != l {
			t.Fatal(l, back, e)
		}
	}
}
