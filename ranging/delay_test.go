package ranging_test

import (
	"math/rand"
	"slices"
	"testing"

	"cassegrain/api"
	"cassegrain/ranging"
)

func loop(cable, lo, hi int) api.RangingLoop {
	return api.RangingLoop{Cable: cable, Measured: api.Range{Lo: lo, Hi: hi}}
}

// exampleLoops returns the loops of example 7.
func exampleLoops() []api.RangingLoop {
	return []api.RangingLoop{loop(10, 25, 27), loop(20, 36, 40)}
}

// P7.6: example 7, and other delays, which may be negative.
func TestDelayExamples(t *testing.T) {
	for _, c := range []struct {
		loops []api.RangingLoop
		want  api.Range
	}{
		{exampleLoops(), limit(16, 17)},
		{exampleLoops()[:1], limit(15, 17)},
		{exampleLoops()[1:], limit(16, 20)},
		{[]api.RangingLoop{loop(10, 25, 27), loop(20, 37, 40)}, limit(17, 17)}, // one delay alone
		{[]api.RangingLoop{loop(30, 25, 27)}, limit(-5, -3)},
		{[]api.RangingLoop{loop(30, 25, 35), loop(0, 0, 1)}, limit(0, 1)},
		{[]api.RangingLoop{loop(100000, 0, 100000)}, limit(-100000, 0)},
		{[]api.RangingLoop{loop(0, 0, 100000)}, limit(0, 100000)},
		{repeated(loop(7, 7, 7), 12), limit(0, 0)},
	} {
		before := slices.Clone(c.loops)
		got, e := ranging.DelayOf(c.loops)
		wantValue(t, c, got, e, c.want)
		wantSame(t, c.loops, before)
	}
}

// P7.6: the errors of DelayOf, in their order.
func TestDelayErrors(t *testing.T) {
	fails := func(l []api.RangingLoop, want api.Errno) {
		t.Helper()
		got, e := ranging.DelayOf(l)
		wantNoValue(t, l, got, e, want)
	}
	fails(nil, api.ErrShape)
	fails([]api.RangingLoop{}, api.ErrShape)
	fails(repeated(loop(7, 7, 7), 13), api.ErrLarge)
	fails(repeated(loop(-1, 8, 7), 13), api.ErrLarge)
	fails([]api.RangingLoop{loop(10, 25, 27), loop(20, 38, 40)}, api.ErrClash)
	fails([]api.RangingLoop{loop(20, 38, 40), loop(10, 25, 27)}, api.ErrClash)
	fails([]api.RangingLoop{loop(0, 1, 2), loop(0, 2, 3), loop(0, 3, 4)}, api.ErrClash) // the first one and the last one
	for i := range 2 {
		bad := func(x api.RangingLoop, want api.Errno) {
			t.Helper()
			fails(with(exampleLoops(), i, x), want)
			fails(append(with(exampleLoops(), i, x), loop(0, 2, 1), loop(-1, 0, 0)), want)
			fails(append([]api.RangingLoop{loop(0, 90, 99)}, with(exampleLoops(), i, x)...), want) // before ErrClash
		}
		for _, n := range badNumbers(0, 100000) {
			bad(loop(n, 25, 27), api.ErrRange)
			bad(loop(n, 27, 25), api.ErrRange)
			bad(loop(10, n, 27), api.ErrRange)
			bad(loop(10, 25, n), api.ErrRange)
			bad(loop(10, n, n), api.ErrRange)
		}
		bad(loop(10, 28, 27), api.ErrOrder)
		bad(loop(10, 100000, 0), api.ErrOrder)
	}
}

// P7.6: the delay by the definition: each delay that is in the ranges of all loops, and no other one.
func TestDelayByDefinition(t *testing.T) {
	r := rand.New(rand.NewSource(11))
	found, clashes := 0, 0
	for range 500 {
		var l []api.RangingLoop
		for range between(r, 1, 12) {
			lo := between(r, 10, 30)
			l = append(l, loop(lo-10+r.Intn(8), lo, lo+r.Intn(20)))
		}
		var want []int
		for delay := -50; delay <= 50; delay++ {
			if !slices.ContainsFunc(l, func(x api.RangingLoop) bool {
				return x.Cable+delay < x.Measured.Lo || x.Cable+delay > x.Measured.Hi
			}) {
				want = append(want, delay)
			}
		}
		got, e := ranging.DelayOf(l)
		if len(want) == 0 {
			wantNoValue(t, l, got, e, api.ErrClash)
			clashes++
			continue
		}
		wantValue(t, l, got, e, limit(want[0], want[len(want)-1]))
		found++
	}
	if found < 100 || clashes < 50 {
		t.Error(found, clashes)
	}
}

// P7.6: example 7, and other corrections: of distances, not of changes.
func TestCorrectedExamples(t *testing.T) {
	same := func(l []api.RangingMeasurement, delay api.Range, want ...api.RangingMeasurement) {
		t.Helper()
		before := slices.Clone(l)
		got, e := ranging.Corrected(l, delay)
		wantSlice(t, l, got, e, want)
		for i := range got {
			got[i] = at(999, 0, 0)
		}
		wantSame(t, l, before) // no memory is shared
	}
	same(examples(), limit(16, 17), at(0, 83, 86), at(10, 103, 105))
	same(clashing(), limit(16, 17), at(0, 83, 86), at(10, 103, 105), from(0, 5, 20, 30))
	same(examples(), limit(0, 0), examples()...)
	same(examples(), limit(-7, -7), at(0, 107, 109), at(10, 127, 128))
	same(examples(), limit(-7, 200), at(0, -100, 109), at(10, -80, 128))
	same(nil, limit(-100000, 100000))
	same([]api.RangingMeasurement{at(5, 0, 0)}, limit(-100000, 100000), at(5, -100000, 100000))
	same([]api.RangingMeasurement{at(5, 100000, 100000)}, limit(0, 100000), at(5, 0, 100000))
	same([]api.RangingMeasurement{from(0, 5, -100000, 100000)}, limit(-100000, 100000), from(0, 5, -100000, 100000))
}

// P7.6: the errors of Corrected, in their order.
func TestCorrectedErrors(t *testing.T) {
	fails := func(l []api.RangingMeasurement, delay api.Range, want api.Errno) {
		t.Helper()
		got, e := ranging.Corrected(l, delay)
		wantNoSlice(t, delay, got, e, want)
	}
	for _, c := range allBadMeasurements() {
		fails(c.measurements, limit(16, 17), c.want)
		fails(c.measurements, limit(100001, 17), c.want)
	}
	wide := []api.RangingMeasurement{at(5, -100000, 100000)}
	for _, l := range [][]api.RangingMeasurement{nil, examples(), wide} {
		for _, n := range badNumbers(-100000, 100000) {
			fails(l, limit(n, 0), api.ErrRange)
			fails(l, limit(0, n), api.ErrRange)
			fails(l, limit(n, n), api.ErrRange)
		}
		fails(l, limit(17, 16), api.ErrOrder)
		fails(l, limit(100000, -100000), api.ErrOrder)
	}
	fails(wide, limit(0, 1), api.ErrLarge)
	fails(wide, limit(-1, 0), api.ErrLarge)
	fails(wide, limit(1, 1), api.ErrLarge)
	fails([]api.RangingMeasurement{at(0, 0, 0), from(0, 5, 0, 0), at(5, -1, 0)}, limit(0, 100000), api.ErrLarge)
	fails([]api.RangingMeasurement{at(0, 0, 0), at(5, 0, 1)}, limit(-100000, 0), api.ErrLarge)
	fails([]api.RangingMeasurement{at(5, 100000, 100000)}, limit(-100000, -100000), api.ErrLarge)
	fails([]api.RangingMeasurement{at(5, -100000, -100000)}, limit(100000, 100000), api.ErrLarge)
}
