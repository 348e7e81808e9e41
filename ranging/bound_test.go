package ranging_test

import (
	"math/big"
	"math/rand"
	"slices"
	"testing"

	"cassegrain/api"
	"cassegrain/ranging"
)

// wantDistance reports distances at a time, or an error, that differ from the wanted ones.
func wantDistance(t *testing.T, l []api.RangingMeasurement, time int, want [2]api.Frac) {
	t.Helper()
	got, e := ranging.DistanceIn(l, time)
	wantValue(t, l, got, e, want)
}

// wantNoDistance reports an error of DistanceIn that differs from the wanted one, and distances beside it.
func wantNoDistance(t *testing.T, l []api.RangingMeasurement, time int, want api.Errno) {
	t.Helper()
	got, e := ranging.DistanceIn(l, time)
	wantNoValue(t, l, got, e, want)
}

// wantSpeed reports speeds, or an error, that differ from the wanted ones.
func wantSpeed(t *testing.T, l []api.RangingMeasurement, want [2]api.Frac) {
	t.Helper()
	got, e := ranging.SpeedOf(l)
	wantValue(t, l, got, e, want)
}

// wantNoSpeed reports an error of SpeedOf that differs from the wanted one, and speeds beside it.
func wantNoSpeed(t *testing.T, l []api.RangingMeasurement, want api.Errno) {
	t.Helper()
	got, e := ranging.SpeedOf(l)
	wantNoValue(t, l, got, e, want)
}

// wantContradiction reports a set of measurements that differs from the wanted one; without a wanted one there is none.
func wantContradiction(t *testing.T, l []api.RangingMeasurement, want ...int) {
	t.Helper()
	got, e := ranging.Contradicting(l)
	if len(want) == 0 {
		wantNoSlice(t, l, got, e, api.ErrNone)
		return
	}
	wantSlice(t, l, got, e, want)
}

// P7.3: example 3, and other enclosures in lowest terms.
func TestEnclosureExamples(t *testing.T) {
	wantSpeed(t, examples(), fractions(9, 5, 21, 10))
	wantDistance(t, examples(), 20, fractions(138, 1, 142, 1))
	wantDistance(t, examples(), 5, fractions(110, 1, 223, 2))
	wantDistance(t, examples(), 0, fractions(100, 1, 102, 1))
	wantDistance(t, examples(), 10, fractions(120, 1, 121, 1))
	change := []api.RangingMeasurement{at(10, 50, 50), from(3, 7, -6, 9)}
	wantSpeed(t, change, fractions(-3, 2, 9, 4))
	wantDistance(t, change, 0, fractions(55, 2, 65, 1))
	wantDistance(t, change, 12, fractions(47, 1, 109, 2))
	exact := []api.RangingMeasurement{at(0, 0, 0), at(3, 1, 1)}
	wantSpeed(t, exact, fractions(1, 3, 1, 3))
	wantDistance(t, exact, 1000, fractions(1000, 3, 1000, 3))
	steep := []api.RangingMeasurement{at(999, -100000, -100000), at(1000, 100000, 100000)}
	wantSpeed(t, steep, fractions(200000, 1, 200000, 1))
	wantDistance(t, steep, 0, fractions(-199900000, 1, -199900000, 1)) // beyond MaxRangingDistance
}

// P7.3: the edge cases: what is bounded depends on what is measured.
func TestEnclosureEdgeCases(t *testing.T) {
	for _, time := range []int{0, 5, 1000} {
		wantNoDistance(t, nil, time, api.ErrOpen)
		wantNoDistance(t, []api.RangingMeasurement{from(0, 5, 20, 30)}, time, api.ErrOpen) // changes alone
		wantNoDistance(t, []api.RangingMeasurement{from(0, 5, 20, 30), from(1, 9, 30, 40)}, time, api.ErrOpen)
		wantNoDistance(t, []api.RangingMeasurement{at(7, 20, 30)}, time, api.ErrOpen) // at its own time only
		wantNoDistance(t, []api.RangingMeasurement{at(7, 20, 30), at(7, 25, 35)}, time, api.ErrOpen)
	}
	wantNoSpeed(t, nil, api.ErrOpen)
	wantNoSpeed(t, []api.RangingMeasurement{}, api.ErrOpen)
	wantNoSpeed(t, []api.RangingMeasurement{at(7, 20, 30)}, api.ErrOpen)
	wantNoSpeed(t, []api.RangingMeasurement{at(7, 20, 30), at(7, 25, 35)}, api.ErrOpen)
	wantDistance(t, []api.RangingMeasurement{at(7, 20, 30)}, 7, fractions(20, 1, 30, 1))
	wantDistance(t, []api.RangingMeasurement{at(0, -3, 0)}, 0, fractions(-3, 1, 0, 1))
	wantDistance(t, []api.RangingMeasurement{at(7, 20, 30), at(7, 25, 35)}, 7, fractions(25, 1, 30, 1))
	wantSpeed(t, []api.RangingMeasurement{from(0, 5, 20, 30)}, fractions(4, 1, 6, 1))
	wantSpeed(t, []api.RangingMeasurement{from(0, 5, 20, 30), from(1, 9, 30, 40)}, fractions(4, 1, 5, 1))
	wantSpeed(t, []api.RangingMeasurement{at(3, 1, 2), from(0, 3, 20, 30)}, fractions(20, 3, 10, 1))
	for _, time := range []int{0, 5, 10, 11, 1000} { // two distances at different times bound it at every time
		_, e := ranging.DistanceIn(examples(), time)
		wantError(t, time, e, api.OK)
	}
}

// P7.3: measurements that contradict each other have no bounds, whatever the question is.
func TestEnclosureClash(t *testing.T) {
	for _, l := range [][]api.RangingMeasurement{
		clashing(),
		{at(5, 0, 1), at(5, 2, 3)},
		{from(0, 5, 0, 1), from(5, 10, 2, 3)},
		{from(0, 5, 0, 1), from(0, 10, 3, 4)},
		{at(0, 0, 0), at(1, 0, 0), at(2, 1, 1)},
		{at(5, 0, 1), at(5, 2, 3), at(9, 0, 0), from(0, 1, 0, 0)},
	} {
		for _, time := range []int{0, 5, 7, 1000} {
			wantNoDistance(t, l, time, api.ErrClash)
		}
		wantNoSpeed(t, l, api.ErrClash)
	}
}

// P7.3: the errors of the arguments, in their order.
func TestEnclosureErrors(t *testing.T) {
	for _, c := range allBadMeasurements() {
		wantNoDistance(t, c.measurements, 5, c.want)
		wantNoDistance(t, c.measurements, -1, c.want)
		wantNoSpeed(t, c.measurements, c.want)
		got, e := ranging.Contradicting(c.measurements)
		wantNoSlice(t, c, got, e, c.want)
	}
	for _, time := range badNumbers(0, 1000) {
		wantNoDistance(t, examples(), time, api.ErrRange)
		wantNoDistance(t, clashing(), time, api.ErrRange)
		wantNoDistance(t, nil, time, api.ErrRange)
	}
}

// P7.5: example 5, and other sets; of several the first one.
func TestContradictingExamples(t *testing.T) {
	wantContradiction(t, clashing(), 0, 1, 2)
	wantContradiction(t, clashing()[:2])
	wantContradiction(t, clashing()[1:])
	wantContradiction(t, []api.RangingMeasurement{clashing()[0], clashing()[2]})
	wantContradiction(t, nil)
	wantContradiction(t, []api.RangingMeasurement{at(0, 5, 5)})
	wantContradiction(t, repeated(from(0, 1, 5, 5), 12))
	wantContradiction(t, append(clashing(), at(10, 122, 130)), 1, 3) // two before three
	wantContradiction(t, append(clashing(), at(10, 122, 130), at(0, 99, 99)), 0, 4)
	wantContradiction(t, append(clashing(), from(5, 15, 39, 39)), 2, 3) // the speed 3.9
	wantContradiction(t, append(clashing(), from(0, 1, 4, 4)), 0, 1, 2)
	wantContradiction(t, []api.RangingMeasurement{at(5, 0, 1), at(5, 1, 2), at(5, 2, 3)}, 0, 2)
	wantContradiction(t, []api.RangingMeasurement{from(0, 2, 0, 1), from(0, 4, 2, 4), from(0, 4, 3, 4)}, 0, 2)
	wantContradiction(t, append(repeated(at(5, 0, 1), 11), at(5, 2, 2)), 0, 11)
	wantContradiction(t, append(repeated(from(0, 1000, -100000, 100000), 9), clashing()...), 9, 10, 11)
}

// P7.3: enclosures by the definition, computed by elimination. P7.5: contradicting sets by trying all sets. P7.12: DistanceIn answers ErrClash exactly if there is one, which has at most three measurements, and no superfluous one.
func TestEnclosureByDefinition(t *testing.T) {
	r := rand.New(rand.NewSource(6))
	errors, sizes := map[api.Errno]int{}, map[int]int{}
	for range 1500 {
		x := spreads()[r.Intn(len(spreads()))]
		l := randomMeasurements(r, x, r.Intn(9))
		before := slices.Clone(l)
		for _, time := range []int{r.Intn(x.time + 1), r.Intn(1001)} {
			want, wanted := distanceByDefinition(l, time)
			got, e := ranging.DistanceIn(l, time)
			wantError(t, l, e, wanted)
			if got != want {
				t.Error(l, time, got, want)
			}
			errors[e]++
		}
		want, wanted := speedByDefinition(l)
		got, e := ranging.SpeedOf(l)
		wantError(t, l, e, wanted)
		if got != want {
			t.Error(l, got, want)
		}
		set, _ := minimumByDefinition(l, contradictByDefinition)
		wantContradiction(t, l, set...)
		if _, e := ranging.DistanceIn(l, 0); (e == api.ErrClash) != (len(set) > 0) || len(set) > 3 {
			t.Error(l, set)
		}
		for i := range set {
			wantContradiction(t, chosen(l, slices.Delete(slices.Clone(set), i, i+1)))
		}
		sizes[len(set)]++
		wantSame(t, l, before)
	}
	for _, e := range []api.Errno{api.OK, api.ErrOpen, api.ErrClash} {
		if errors[e] < 100 {
			t.Error(errors)
		}
	}
	if sizes[0] < 100 || sizes[2] < 100 || sizes[3] < 100 {
		t.Error(sizes)
	}
}

// P7.5: contradictions among as many measurements as are permitted.
func TestContradictingMany(t *testing.T) {
	r := rand.New(rand.NewSource(7))
	found := map[int]int{}
	for range 60 {
		x := spread{time: 1000, size: 10000, width: 1000, shift: between(r, 100, 1200)}
		l := randomMeasurements(r, x, 12)
		set, _ := minimumByDefinition(l, contradictByDefinition)
		wantContradiction(t, l, set...)
		found[len(set)]++
	}
	if found[0] < 5 || found[2] < 5 || found[3] < 5 {
		t.Error(found)
	}
}

// wantWithin reports a value that is not from bounds[0] to bounds[1].
func wantWithin(t *testing.T, what any, value *big.Rat, bounds [2]api.Frac) {
	t.Helper()
	if value.Cmp(ratOf(bounds[0])) < 0 || value.Cmp(ratOf(bounds[1])) > 0 {
		t.Errorf("%v: %v is not within %v", what, value, bounds)
	}
}

// wantNarrower reports bounds that are wider than others.
func wantNarrower(t *testing.T, what any, bounds, others [2]api.Frac) {
	t.Helper()
	wantWithin(t, what, ratOf(bounds[0]), others)
	wantWithin(t, what, ratOf(bounds[1]), others)
}

// around returns measurements that a line satisfies.
func around(r *rand.Rand, start, speed *big.Rat, count int) []api.RangingMeasurement {
	l := make([]api.RangingMeasurement, count)
	for i := range l {
		l[i] = at(r.Intn(101), 0, 0)
		if first := r.Intn(101); r.Intn(3) == 0 && first < l[i].To {
			l[i] = from(first, l[i].To, 0, 0)
		}
		value := measuredByDefinition(l[i], start, speed)
		down := new(big.Int).Div(value.Num(), value.Denom()) // rounds down, as the denominator is above 0
		l[i].Value = limit(int(down.Int64())-r.Intn(5), int(down.Int64())+1+r.Intn(5))
	}
	return l
}

// P7.10: the distances and the speed of a possible line are enclosed; with more measurements neither is wider. P7.13: it has no residuals.
func TestEnclosed(t *testing.T) {
	r := rand.New(rand.NewSource(8))
	for range 200 {
		start, speed := fraction(between(r, -10000, 10000), between(r, 1, 50)), fraction(between(r, -900, 900), between(r, 1, 50))
		l := around(r, start, speed, 12)
		given := api.RangingLine{Start: fracOf(start), Speed: fracOf(speed)}
		residuals, e := ranging.Residuals(l, given)
		wantSlice(t, given, residuals, e, repeated(api.Frac{Num: 0, Den: 1}, 12))
		for _, time := range []int{0, 50, 100, r.Intn(1001)} {
			var before [2]api.Frac
			for n := range 13 {
				bounds, e := ranging.DistanceIn(l[:n], time)
				if e == api.ErrOpen && before == ([2]api.Frac{}) {
					continue // not bounded yet
				}
				wantError(t, l[:n], e, api.OK)
				wantWithin(t, l[:n], measuredByDefinition(at(time, 0, 0), start, speed), bounds)
				if before != ([2]api.Frac{}) {
					wantNarrower(t, l[:n], bounds, before)
				}
				before = bounds
			}
		}
		wantSpeedsEnclosed(t, l, speed)
	}
}

// wantSpeedsEnclosed reports a speed that is not enclosed, and enclosures that become wider with more measurements.
func wantSpeedsEnclosed(t *testing.T, l []api.RangingMeasurement, speed *big.Rat) {
	t.Helper()
	var before [2]api.Frac
	for n := range len(l) + 1 {
		bounds, e := ranging.SpeedOf(l[:n])
		if e == api.ErrOpen && before == ([2]api.Frac{}) {
			continue
		}
		wantError(t, l[:n], e, api.OK)
		wantWithin(t, l[:n], speed, bounds)
		if before != ([2]api.Frac{}) {
			wantNarrower(t, l[:n], bounds, before)
		}
		before = bounds
	}
}
