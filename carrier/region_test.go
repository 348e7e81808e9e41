package carrier_test

import (
	"math/rand"
	"slices"
	"testing"

	"cassegrain/api"
	"cassegrain/carrier"
)

func row(frequency, lo, hi int) api.CarrierRow {
	return api.CarrierRow{Frequency: frequency, Deviations: span(lo, hi)}
}

func rows(l ...api.CarrierRow) []api.CarrierRow {
	return l
}

// falling returns a loop that corrects each deviation at once, while its frequency decreases by 1 at each sample down to 0: each frequency is a row.
func falling(frequency int) api.CarrierLoop {
	return api.CarrierLoop{First: 1000, Second: 1, Den: 1000, Frequency: frequency}
}

// wantRegion checks what CheckRegion returns: an error, or a number of pairs.
func wantRegion(t *testing.T, l api.CarrierLoop, c api.CarrierClass, rows []api.CarrierRow, pairs int, want api.Errno) {
	t.Helper()
	before := slices.Clone(rows)
	if n, e := carrier.CheckRegion(l, c, rows); n != pairs || e != want {
		t.Fatal(l, c, rows, n, e, pairs, want)
	}
	wantSame(t, "the rows", rows, before)
}

// P3.6: example 7 with and without noise, rows that are never reached, and what a region lacks.
func TestCheckRegion(t *testing.T) {
	noisy := goodClass()
	noisy.Noise = 4
	quiet := api.CarrierClass{Noise: 1}
	upwards := api.CarrierClass{Steps: span(0, 1)}
	wide := api.CarrierClass{Start: span(-3, 4)}
	for _, c := range []struct {
		l     api.CarrierLoop
		c     api.CarrierClass
		rows  []api.CarrierRow
		pairs int
		want  api.Errno
	}{
		{goodLoop(), goodClass(), rows(row(0, 0, 20)), 21, api.OK},
		{goodLoop(), goodClass(), rows(row(0, -2, 20)), 23, api.OK},
		{goodLoop(), goodClass(), rows(row(0, 0, 19)), 0, api.ErrGap}, // 19 + 10 - 9
		{goodLoop(), goodClass(), rows(row(0, 0, 21)), 22, api.OK},
		{goodLoop(), goodClass(), rows(row(0, 1, 20)), 0, api.ErrMissing},
		{goodLoop(), goodClass(), rows(row(-2048, 0, 20)), 0, api.ErrMissing},
		{goodLoop(), goodClass(), nil, 0, api.ErrMissing},
		{goodLoop(), goodClass(), rows(row(0, 0, 20), row(7, -4, -4)), 0, api.ErrGap},
		{goodLoop(), goodClass(), rows(row(0, 0, 20), row(7, 0, 6)), 28, api.OK}, // never reached: with the frequency 7 at most 6
		{goodLoop(), noisy, rows(row(0, 0, 20)), 0, api.ErrGap},
		{goodLoop(), noisy, rows(row(0, 0, 24)), 25, api.OK},
		{goodLoop(), noisy, rows(row(0, 0, 23)), 0, api.ErrGap}, // 23 + 10 - 9
		{drift(0), wide, rows(row(0, -3, 4)), 8, api.OK},
		{drift(0), wide, rows(row(0, -3, 3)), 0, api.ErrMissing},
		{drift(0), wide, rows(row(0, -2, 4)), 0, api.ErrMissing},
		{drift(0), wide, rows(row(-1, -3, 4), row(1, -3, 4)), 0, api.ErrMissing},
		{drift(0), wide, rows(row(-1, 2047, 2047)), 0, api.ErrMissing}, // before what a pair does
		{drift(0), wide, rows(row(0, -3, 4), row(1, 0, 0)), 0, api.ErrGap},
		{drift(0), upwards, rows(row(0, -5, 3)), 0, api.ErrGap},
		{drift(0), quiet, rows(row(0, -900, 2046)), 2947, api.OK},
		{drift(0), quiet, rows(row(0, -900, 2047)), 0, api.ErrBreak},
		{drift(0), quiet, rows(row(0, -2047, 900)), 2948, api.OK},
		{drift(0), quiet, rows(row(0, -2048, 900)), 0, api.ErrBreak},
		{drift(0), goodClass(), rows(row(0, 0, 2047)), 0, api.ErrGap}, // 2038 + 10
		{drift(10), goodClass(), rows(row(10, -500, 2047)), 2548, api.OK},
		{drift(0), quiet, rows(row(-3, 0, 0), row(0, 0, 2047)), 0, api.ErrGap},  // the pair with the lesser frequency decides
		{drift(0), quiet, rows(row(0, 0, 2047), row(3, 0, 0)), 0, api.ErrBreak}, // here, too
		{drift(0), quiet, rows(row(-3, 2047, 2047), row(0, 0, 0)), 0, api.ErrBreak},
		{drift(0), api.CarrierClass{Steps: span(-1, 0), Noise: 1}, rows(row(0, 0, 2047)), 0, api.ErrGap},   // the pair with the lesser deviation decides
		{drift(0), api.CarrierClass{Steps: span(0, 1), Noise: 1}, rows(row(0, -2048, 5)), 0, api.ErrBreak}, // here, too
		{drift(0), api.CarrierClass{Steps: span(0, 1), Noise: 1}, rows(row(0, 0, 2047)), 0, api.ErrBreak},
		{drift(0), api.CarrierClass{Steps: span(0, 1), Noise: 1}, rows(row(0, 0, 2046)), 0, api.ErrGap},
	} {
		wantRegion(t, c.l, c.c, c.rows, c.pairs, c.want)
	}
}

// P3.6: as many pairs and rows as are permitted, and one more.
func TestGreatestRegions(t *testing.T) {
	wantRegion(t, drift(0), api.CarrierClass{}, rows(row(0, -1500, 1499)), 3000, api.OK)
	wantRegion(t, drift(0), api.CarrierClass{}, rows(row(0, -1500, 1500)), 0, api.ErrLarge)
	wantRegion(t, drift(0), api.CarrierClass{}, rows(row(0, 1, 2000), row(1, 1, 1001)), 0, api.ErrLarge) // before what is missing
	wantRegion(t, drift(0), api.CarrierClass{}, rows(row(0, -2048, 2047)), 0, api.ErrLarge)
	steps := func(top int) []api.CarrierRow {
		var l []api.CarrierRow
		for frequency := range top {
			l = append(l, row(frequency, -frequency, -frequency))
		}
		return append(l, row(top, -top, 0))
	}
	wantRegion(t, falling(199), api.CarrierClass{}, steps(199), 399, api.OK)
	wantRegion(t, falling(200), api.CarrierClass{}, steps(200), 0, api.ErrLarge)
	wantRegion(t, falling(199), api.CarrierClass{}, steps(199)[1:], 0, api.ErrGap)
	for _, c := range []struct {
		l    api.CarrierLoop
		c    api.CarrierClass
		want api.Errno
	}{
		{drift(0), onePath(span(-1500, 1499), 0), api.OK},
		{drift(0), onePath(span(-1500, 1500), 0), api.ErrLarge},
		{falling(199), api.CarrierClass{}, api.OK},
		{falling(200), api.CarrierClass{}, api.ErrRefused},
		{api.CarrierLoop{First: 2, Den: 1}, onePath(span(1499, 1499), 0), api.OK}, // -1499 is reached, and all between belong to the row
		{api.CarrierLoop{First: 2, Den: 1}, onePath(span(1500, 1500), 0), api.ErrRefused},
		{api.CarrierLoop{First: 2, Den: 1}, onePath(span(1500, 1500), 1), api.OK},
		{api.CarrierLoop{First: 2, Den: 1}, onePath(span(1501, 1501), 1), api.ErrRefused},
		{api.CarrierLoop{First: 8, Second: 30, Den: 10, Frequency: 258}, onePath(span(1103, 1103), 282), api.ErrRefused}, // deviations between those that are reached lead beyond 2047, though to few pairs
		{api.CarrierLoop{Second: 25, Den: 1, Frequency: -992}, onePath(span(-884, -884), -1929), api.ErrRefused},         // or below -2048
		{drift(0), goodClass(), api.ErrBreak},
		{drift(0), onePath(span(-951, 1948), 100), api.ErrBreak},
		{drift(0), onePath(span(-952, 1948), 100), api.ErrLarge},
	} {
		l, e := carrier.Region(c.l, c.c)
		wantError(t, c, e, c.want)
		if c.want != api.OK {
			wantSame(t, c, l, nil)
		} else if n, e := carrier.CheckRegion(c.l, c.c, l); e != api.OK || n > 3000 {
			t.Error(c, n, e)
		}
	}
}

// P3.6: the errors of a loop, a class and rows, in their order.
func TestCheckRegionErrors(t *testing.T) {
	many := make([]api.CarrierRow, 201) // all with the same frequency
	for _, l := range badLoops() {
		wantRegion(t, l, goodClass(), rows(row(0, 0, 20)), 0, api.ErrRange)
		wantRegion(t, l, api.CarrierClass{Start: span(1, 0)}, many, 0, api.ErrRange)
	}
	for _, c := range badClasses() {
		wantRegion(t, goodLoop(), c.value, rows(row(0, 0, 20)), 0, c.want)
		wantRegion(t, goodLoop(), c.value, rows(row(0, 5000, 0)), 0, c.want)
	}
	wantRegion(t, goodLoop(), goodClass(), many, 0, api.ErrLarge)
	wantRegion(t, goodLoop(), goodClass(), append(many, row(5000, 1, 0)), 0, api.ErrLarge) // before those of the rows
	wantRegion(t, goodLoop(), goodClass(), many[:200], 0, api.ErrOrder)
	for _, n := range badNumbers(-2048, 2047) {
		wantRegion(t, goodLoop(), goodClass(), rows(row(n, 0, 20)), 0, api.ErrRange)
		wantRegion(t, goodLoop(), goodClass(), rows(row(0, n, 20)), 0, api.ErrRange)
		wantRegion(t, goodLoop(), goodClass(), rows(row(0, 0, n)), 0, api.ErrRange)
		wantRegion(t, goodLoop(), goodClass(), rows(row(0, 0, 20), row(n, 0, 20)), 0, api.ErrRange)
	}
	for _, c := range []struct {
		rows []api.CarrierRow
		want api.Errno
	}{
		{rows(row(0, 1, 0)), api.ErrOrder},
		{rows(row(0, 0, 20), row(0, 30, 31)), api.ErrOrder},
		{rows(row(0, 0, 20), row(-1, 0, 0)), api.ErrOrder},
		{rows(row(0, 0, 20), row(2048, 1, 0)), api.ErrRange},                      // the range before the order
		{rows(row(0, 0, 20), row(-1, 5, 2048)), api.ErrRange},                     // here, too
		{rows(row(1, 1, 0), row(2048, 0, 0)), api.ErrOrder},                       // row by row
		{rows(row(1, 0, 0), row(0, 0, 0), row(2048, 0, 0)), api.ErrOrder},         // row by row
		{rows(row(0, -2048, 2047), row(0, 0, 0)), api.ErrOrder},                   // before the number of pairs
		{rows(row(0, -2048, 2047), row(1, 0, 2048)), api.ErrRange},                // here, too
		{rows(row(1, -2048, 2047), row(2, 0, 0)), api.ErrLarge},                   // before what is missing
		{rows(row(-2048, 0, 0), row(0, 0, 20), row(2047, -2048, -1)), api.ErrGap}, // the rows themselves are valid
	} {
		wantRegion(t, goodLoop(), goodClass(), c.rows, 0, c.want)
	}
}

// P3.6: the errors of a loop and a class.
func TestRegionErrors(t *testing.T) {
	wantNone := func(l api.CarrierLoop, c api.CarrierClass, want api.Errno) {
		t.Helper()
		got, e := carrier.Region(l, c)
		wantError(t, c, e, want)
		wantSame(t, c, got, nil)
	}
	for _, l := range badLoops() {
		wantNone(l, goodClass(), api.ErrRange)
		wantNone(l, api.CarrierClass{Start: span(1, 0)}, api.ErrRange)
	}
	for _, c := range badClasses() {
		wantNone(goodLoop(), c.value, c.want)
	}
}

// proved returns random loops and classes with regions.
func proved(t *testing.T, r *rand.Rand, count int) []struct {
	l    api.CarrierLoop
	c    api.CarrierClass
	rows []api.CarrierRow
} {
	type proof = struct {
		l    api.CarrierLoop
		c    api.CarrierClass
		rows []api.CarrierRow
	}
	var found []proof
	for range 100 * count {
		l, c := quietLoop(r), quietClass(r)
		if rows, e := carrier.Region(l, c); e == api.OK && len(found) < count {
			found = append(found, proof{l, c, rows})
		}
	}
	if len(found) < count {
		t.Fatal(len(found))
	}
	return found
}

// disturbed returns rows with a small change.
func disturbed(r *rand.Rand, l []api.CarrierRow) []api.CarrierRow {
	l = slices.Clone(l)
	at := r.Intn(len(l))
	switch r.Intn(5) {
	case 0:
		l = slices.Delete(l, at, at+1)
	case 1:
		if l[at].Deviations.Lo < l[at].Deviations.Hi {
			l[at].Deviations.Lo++
		}
	case 2:
		if l[at].Deviations.Lo < l[at].Deviations.Hi {
			l[at].Deviations.Hi--
		}
	case 3:
		l[at].Deviations = span(l[at].Deviations.Lo-1, l[at].Deviations.Hi+r.Intn(2))
	case 4:
		next := l[len(l)-1]
		next.Frequency++
		l = append(l, next)
	}
	return l
}

// P3.6: regions by the definition, also with small changes.
func TestRegionsByDefinition(t *testing.T) {
	r := rand.New(rand.NewSource(20))
	seen := map[api.Errno]int{}
	for _, p := range proved(t, r, 80) {
		for range 6 {
			n, want := regionByDefinition(p.l, p.c, p.rows)
			wantRegion(t, p.l, p.c, p.rows, n, want)
			seen[want]++
			p.rows = disturbed(r, p.rows)
			if len(p.rows) == 0 {
				break
			}
		}
	}
	if seen[api.OK] < 80 || seen[api.ErrMissing] == 0 || seen[api.ErrGap] == 0 {
		t.Error(seen)
	}
}

// P3.6, P3.11: Region returns a region that is accepted, if there is one; if there is not, its error says why.
func TestRegionByDefinition(t *testing.T) {
	r := rand.New(rand.NewSource(21))
	seen := map[api.Errno]int{}
	for i := range 300 {
		l, c := quietLoop(r), quietClass(r)
		switch i % 3 {
		case 0:
			l = api.CarrierLoop{First: between(r, 0, 9), Second: between(r, 0, 3), Den: between(r, 1, 5), Frequency: between(r, -60, 60)}
			c.Noise, c.Steps = 0, ranges(r, span(-50, 50), 1)
		case 1:
			c.Start = ranges(r, span(-2048, 2047), 3)
		}
		_, failure := failureByDefinition(l, c)
		want := map[api.Errno]api.Errno{api.OK: api.ErrBreak, api.ErrLarge: api.ErrLarge}[failure]
		if failure == api.ErrNone && !closedByDefinition(l, c) {
			want = api.ErrRefused
		}
		got, e := carrier.Region(l, c)
		seen[e]++
		if e != want || e != api.OK && len(got) > 0 {
			t.Fatal(l, c, got, e, want)
		}
		if e == api.OK {
			n, errno := regionByDefinition(l, c, got)
			wantError(t, l, errno, api.OK)
			wantRegion(t, l, c, got, n, api.OK)
		}
	}
	for _, e := range []api.Errno{api.OK, api.ErrLarge, api.ErrBreak, api.ErrRefused} {
		if seen[e] == 0 {
			t.Error("no region with the error", e)
		}
	}
}

// P3.11: where an input fails no region is accepted.
func TestNoRegionWithFailures(t *testing.T) {
	r := rand.New(rand.NewSource(22))
	failures := 0
	for range 200 {
		l, c := quietLoop(r), quietClass(r)
		l.First, l.Second = r.Intn(3), r.Intn(2)
		if _, e := carrier.FirstFailure(l, c); e != api.OK {
			continue
		}
		failures++
		_, e := carrier.Region(l, c)
		wantError(t, l, e, api.ErrBreak)
		for range 10 {
			wide := rows(row(l.Frequency, between(r, -1450, -40), between(r, 40, 1450)))
			if r.Intn(2) == 0 {
				wide = nil
				for frequency := -40; frequency < 40; frequency++ {
					wide = append(wide, row(frequency, -17, 18))
				}
			}
			if n, e := carrier.CheckRegion(l, c, wide); e == api.OK || n != 0 {
				t.Fatal(l, c, wide, n)
			}
		}
	}
	if failures == 0 {
		t.Error("no failure was tested")
	}
}

// walk returns the truth and the measured phases of inputs.
func walk(start int, inputs []api.CarrierInput) (truth, phases []int) {
	total := start
	for _, in := range inputs {
		truth = append(truth, total)
		phases = append(phases, remainder(total+in.Noise, 4096))
		total += in.Step
	}
	return truth, phases
}

// randomInputs returns inputs of a class: at random, or always the same.
func randomInputs(r *rand.Rand, c api.CarrierClass, count int) []api.CarrierInput {
	all := inputsOf(c)
	inputs := slices.Repeat([]api.CarrierInput{all[r.Intn(len(all))]}, count)
	if r.Intn(2) == 0 {
		for n := range inputs {
			inputs[n] = all[r.Intn(len(all))]
		}
	}
	return inputs
}

// P3.11: with a region no input fails, there is no cycle slip, and the deviations stay within the region.
func TestRegionProves(t *testing.T) {
	r := rand.New(rand.NewSource(23))
	for _, p := range proved(t, r, 60) {
		_, e := carrier.FirstFailure(p.l, p.c)
		wantError(t, p, e, api.ErrNone)
		for range 5 {
			start, inputs := between(r, p.c.Start.Lo, p.c.Start.Hi), randomInputs(r, p.c, 200)
			_, e := carrier.CheckTrial(p.l, p.c, api.CarrierTrial{Start: start, Inputs: inputs})
			wantError(t, p, e, api.ErrProof)
			truth, phases := walk(start, inputs)
			slips, e := carrier.SlipsOf(p.l, phases, truth)
			wantError(t, p, e, api.OK)
			wantSame(t, p, slips, nil)
			states, errors, e := carrier.Track(p.l, phases)
			wantError(t, p, e, api.OK)
			for n, x := range states {
				deviation := truth[n] - x.Phase
				if !rowsContain(p.rows, pair{x.Frequency, deviation}) || errors[n] != deviation+inputs[n].Noise {
					t.Fatal(p, n, x, deviation, errors[n])
				}
			}
		}
	}
}

// P3.12: a region for a class proves the same for smaller classes.
func TestSmallerClasses(t *testing.T) {
	r := rand.New(rand.NewSource(24))
	for _, p := range proved(t, r, 60) {
		n, _ := carrier.CheckRegion(p.l, p.c, p.rows)
		for range 5 {
			smaller := api.CarrierClass{
				Start: ranges(r, p.c.Start, 4096),
				Steps: ranges(r, p.c.Steps, 9),
				Noise: between(r, 0, p.c.Noise),
			}
			wantRegion(t, p.l, smaller, p.rows, n, api.OK)
		}
	}
}

// P3.14: a loop with a region and one with a great deviation disagree.
func TestDisagreementShows(t *testing.T) {
	r := rand.New(rand.NewSource(25))
	shown := 0
	for _, p := range proved(t, r, 60) {
		most := 0
		for _, row := range p.rows {
			most = max(most, -row.Deviations.Lo, row.Deviations.Hi)
		}
		other := drift(between(r, -60, 60))
		truth, phases := walk(between(r, p.c.Start.Lo, p.c.Start.Hi), randomInputs(r, p.c, 200))
		states, _, _ := carrier.Track(other, phases)
		for _, loops := range [][2]api.CarrierLoop{{p.l, other}, {other, p.l}} {
			got, e := carrier.Disagreements(loops, phases, 2048-most)
			wantError(t, p, e, api.OK)
			for n, x := range states {
				if deviation := truth[n] - x.Phase; max(deviation, -deviation) < 2048 {
					continue
				}
				shown++
				if !slices.Contains(got, n) {
					t.Fatal(p, loops, n, got)
				}
			}
		}
	}
	if shown == 0 {
		t.Error("no disagreement was tested")
	}
}

// R3: results are memory of their own.
func TestResultsKept(t *testing.T) {
	first, _ := carrier.Region(goodLoop(), goodClass())
	before := slices.Clone(first)
	clear(first)
	second, _ := carrier.Region(goodLoop(), goodClass())
	wantSame(t, "example 7", second, before)
	x, _ := carrier.FirstFailure(drift(0), goodClass())
	clear(x.Inputs)
	again, _ := carrier.FirstFailure(drift(0), goodClass())
	wantSame(t, "example 8", again.Inputs, repeated(0, 10, 206))
	replica, _ := carrier.Replica(tone(1024), 4)
	clear(replica)
	replica, _ = carrier.Replica(tone(1024), 4)
	wantSame(t, "example 1", replica, replicaByDefinition(tone(1024), 4))
}
