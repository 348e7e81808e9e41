package ranging_test

import (
	"math"
	"math/rand"
	"slices"
	"testing"

	"cassegrain/api"
	"cassegrain/ranging"
)

// badMeasurements is measurements that are not valid, the index of the wrong one, and the error.
type badMeasurements struct {
	measurements []api.RangingMeasurement
	index        int
	want         api.Errno
}

// wrongMeasurement is a measurement that is not valid, and its error.
type wrongMeasurement struct {
	value api.RangingMeasurement
	want  api.Errno
}

// wrongMeasurements returns measurements that are not valid, some of them for several reasons.
func wrongMeasurements() []wrongMeasurement {
	var l []wrongMeasurement
	add := func(e api.Errno, m api.RangingMeasurement) { l = append(l, wrongMeasurement{m, e}) }
	for _, kind := range []int{math.MinInt, -1, 2, 3, math.MaxInt} {
		add(api.ErrKind, api.RangingMeasurement{Kind: kind, To: 1})
		add(api.ErrKind, api.RangingMeasurement{Kind: kind, From: -1, To: 1001, Value: limit(5, 100001)})
	}
	for _, kind := range []int{api.RangingDistance, api.RangingChange} {
		for _, n := range badNumbers(0, 1000) {
			add(api.ErrRange, api.RangingMeasurement{Kind: kind, From: n, To: 10, Value: limit(1, 2)}) // also of a distance, before ErrForm
			add(api.ErrRange, api.RangingMeasurement{Kind: kind, To: n, Value: limit(1, 2)})
			add(api.ErrRange, api.RangingMeasurement{Kind: kind, From: 7, To: n, Value: limit(2, 1)})
		}
		for _, n := range badNumbers(-100000, 100000) {
			add(api.ErrRange, api.RangingMeasurement{Kind: kind, To: 10, Value: limit(n, 0)})
			add(api.ErrRange, api.RangingMeasurement{Kind: kind, To: 10, Value: limit(0, n)})
			add(api.ErrRange, api.RangingMeasurement{Kind: kind, From: 11, To: 10, Value: limit(n, n)})
		}
	}
	for _, n := range []int{1, 5, 10, 11, 1000} {
		add(api.ErrForm, api.RangingMeasurement{Kind: api.RangingDistance, From: n, To: 10, Value: limit(1, 2)})
		add(api.ErrForm, api.RangingMeasurement{Kind: api.RangingDistance, From: n, To: 10, Value: limit(2, 1)})
	}
	add(api.ErrOrder, from(0, 0, 1, 2))
	add(api.ErrOrder, from(10, 10, 1, 2))
	add(api.ErrOrder, from(11, 10, 1, 2))
	add(api.ErrOrder, from(1000, 0, 1, 2))
	add(api.ErrOrder, from(1, 10, 2, 1))
	add(api.ErrOrder, at(10, 2, 1))
	add(api.ErrOrder, at(0, 100000, -100000))
	return l
}

// allBadMeasurements returns measurements that are not valid.
func allBadMeasurements() []badMeasurements {
	l := []badMeasurements{
		{repeated(at(0, 1, 2), 13), 0, api.ErrLarge},
		{repeated(at(0, 2, 1), 13), 0, api.ErrLarge},
		{repeated(from(0, 1, 1, 2), 1000), 0, api.ErrLarge},
	}
	for _, m := range wrongMeasurements() {
		for i := range 3 {
			l = append(l, badMeasurements{with(clashing(), i, m.value), i, m.want})
			l = append(l, badMeasurements{append(with(examples(), min(i, 1), m.value), at(0, 2, 1), from(0, 0, 1, 1)), min(i, 1), m.want})
		}
		l = append(l, badMeasurements{append(repeated(at(0, 1, 2), 11), m.value), 11, m.want})
	}
	return l
}

// P7.2: measurements within the limits, and the errors of others with the index of the measurement.
func TestCheckMeasurements(t *testing.T) {
	for _, l := range [][]api.RangingMeasurement{
		nil, {}, examples(), clashing(), repeated(at(0, 1, 2), 12),
		{{}}, {at(1000, -100000, 100000)}, {at(0, 100000, 100000)}, {at(5, -100000, -100000)},
		{from(0, 1, 0, 0)}, {from(0, 1000, -100000, 100000)}, {from(999, 1000, 7, 7)},
	} {
		before := slices.Clone(l)
		index, e := ranging.CheckMeasurements(l)
		wantValue(t, l, index, e, 0)
		wantSame(t, l, before)
	}
	for _, c := range allBadMeasurements() {
		index, e := ranging.CheckMeasurements(c.measurements)
		wantError(t, c, e, c.want)
		if index != c.index {
			t.Error(c, index)
		}
	}
}

func line(start, startDen, speed, speedDen int) api.RangingLine {
	return api.RangingLine{Start: api.Frac{Num: start, Den: startDen}, Speed: api.Frac{Num: speed, Den: speedDen}}
}

// P7.5: example 6, and other residuals in lowest terms.
func TestResidualsExamples(t *testing.T) {
	same := func(l []api.RangingMeasurement, x api.RangingLine, want ...api.Frac) {
		t.Helper()
		got, e := ranging.Residuals(l, x)
		wantSlice(t, x, got, e, want)
	}
	zero := api.Frac{Num: 0, Den: 1}
	same(examples(), line(100, 1, 3, 1), zero, api.Frac{Num: 9, Den: 1})
	same(examples(), line(100, 1, 2, 1), zero, zero)
	same(examples(), line(203, 2, 15, 8), zero, api.Frac{Num: 0, Den: 1})
	same(examples(), line(299, 3, 2, 1), api.Frac{Num: 1, Den: 3}, api.Frac{Num: 1, Den: 3}) // below both
	same(examples(), line(311, 3, 2, 1), api.Frac{Num: 5, Den: 3}, api.Frac{Num: 8, Den: 3}) // above both
	same(examples(), line(-1, 2, -1, 4), api.Frac{Num: 201, Den: 2}, api.Frac{Num: 123, Den: 1})
	same([]api.RangingMeasurement{from(2, 5, 1, 2)}, line(7, 1, 1, 9), api.Frac{Num: 2, Den: 3})
	same([]api.RangingMeasurement{from(2, 5, 1, 2)}, line(99999, 1000, 9, 8), api.Frac{Num: 11, Den: 8}) // without Start
	same(nil, line(0, 1, 0, 1))
	same([]api.RangingMeasurement{at(1000, 100000, 100000)}, line(-100000, 1, -100000, 1), api.Frac{Num: 100200000, Den: 1})
}

// P7.5: the errors of Residuals, in their order.
func TestResidualsErrors(t *testing.T) {
	fails := func(l []api.RangingMeasurement, x api.RangingLine, want api.Errno) {
		t.Helper()
		got, e := ranging.Residuals(l, x)
		wantNoSlice(t, x, got, e, want)
	}
	for _, c := range allBadMeasurements() {
		fails(c.measurements, line(1, 1, 1, 1), c.want)
		fails(c.measurements, line(2, 2, 1, 1), c.want)
	}
	wrong := map[api.Frac]api.Errno{
		{}: api.ErrForm, {Num: 1}: api.ErrForm, {Num: 1, Den: -1}: api.ErrForm, {Num: 0, Den: 2}: api.ErrForm, {Num: -6, Den: 4}: api.ErrForm,
		{Num: 200000, Den: 2}: api.ErrForm, {Num: 2002, Den: 2002}: api.ErrForm, {Num: math.MinInt, Den: math.MinInt}: api.ErrForm, {Num: math.MinInt, Den: 2}: api.ErrForm,
		{Num: 100001, Den: 1}: api.ErrRange, {Num: -100001, Den: 1}: api.ErrRange, {Num: 1, Den: 1001}: api.ErrRange,
		{Num: math.MinInt, Den: 1}: api.ErrRange, {Num: math.MinInt, Den: 3}: api.ErrRange, {Num: math.MaxInt, Den: 2}: api.ErrRange, {Num: 1, Den: math.MaxInt}: api.ErrRange,
	}
	good := api.Frac{Num: 1, Den: 1}
	for f, e := range wrong {
		fails(examples(), api.RangingLine{Start: f, Speed: good}, e)
		fails(examples(), api.RangingLine{Start: good, Speed: f}, e)
		fails(nil, api.RangingLine{Start: f, Speed: good}, e)
		for g := range wrong {
			fails(examples(), api.RangingLine{Start: f, Speed: g}, e) // of Start before those of Speed
		}
	}
}

// P7.5: ErrLarge if a residual has a part greater than MaxPart.
func TestResidualsLarge(t *testing.T) {
	for _, l := range [][]api.RangingMeasurement{
		{at(1000, -100000, -99999)},
		{at(999, 0, 0), at(1000, 1, 2)},
	} {
		got, e := ranging.Residuals(l, line(99998, 997, 99989, 991))
		wantNoSlice(t, l, got, e, api.ErrLarge)
	}
	l := []api.RangingMeasurement{at(1000, 0, 0)}
	got, e := ranging.Residuals(l, line(6000, 11, 90902, 13))
	wantSlice(t, l, got, e, []api.Frac{{Num: 1000000000, Den: 143}})
	got, e = ranging.Residuals(l, line(6001, 11, 90902, 13)) // 1000000013 / 143
	wantNoSlice(t, l, got, e, api.ErrLarge)
	got, e = ranging.Residuals(l, line(1, 999, 99999, 1000)) // numbers that become small in lowest terms
	wantSlice(t, l, got, e, []api.Frac{{Num: 99899002, Den: 999}})
}

// randomPart returns a fraction that a line may have.
func randomPart(r *rand.Rand, x spread) api.Frac {
	den := between(r, 1, 1000)
	if r.Intn(2) == 0 {
		den = between(r, 1, 4)
	}
	return fracOf(fraction(between(r, -min(x.size, 100000), min(x.size, 100000)), den))
}

// P7.5: residuals by the definition. P7.13: all of them are 0 exactly for possible lines.
func TestResidualsByDefinition(t *testing.T) {
	r := rand.New(rand.NewSource(5))
	possible, others, large := 0, 0, 0
	for range 4000 {
		x := spreads()[r.Intn(len(spreads()))]
		l := randomMeasurements(r, x, r.Intn(6))
		given := api.RangingLine{Start: randomPart(r, x), Speed: randomPart(r, spread{size: max(1, x.size/x.time)})}
		start, speed := ratOf(given.Start), ratOf(given.Speed)
		var want []api.Frac
		tooLarge, zero, satisfied := false, true, true
		for _, m := range l {
			residual := residualByDefinition(m, start, speed)
			tooLarge = tooLarge || residual.Num().Int64() > 1e9 || residual.Denom().Int64() > 1e9
			zero = zero && residual.Sign() == 0
			value := measuredByDefinition(m, start, speed)
			satisfied = satisfied && value.Cmp(fraction(m.Value.Lo, 1)) >= 0 && value.Cmp(fraction(m.Value.Hi, 1)) <= 0
			want = append(want, fracOf(residual))
		}
		before := slices.Clone(l)
		got, e := ranging.Residuals(l, given)
		wantSame(t, l, before)
		if tooLarge {
			wantNoSlice(t, given, got, e, api.ErrLarge)
			large++
			continue
		}
		wantSlice(t, given, got, e, want)
		if zero != satisfied {
			t.Error(l, given)
		}
		if zero {
			possible++
		} else {
			others++
		}
	}
	if possible < 200 || others < 200 || large < 20 {
		t.Error(possible, others, large)
	}
}
