package ranging_test

import (
	"math"
	"math/rand"
	"slices"
	"testing"

	"cassegrain/api"
	"cassegrain/ranging"
)

func upper(index, weight int) api.RangingTerm {
	return api.RangingTerm{Index: index, Upper: true, Weight: weight}
}

func lower(index, weight int) api.RangingTerm {
	return api.RangingTerm{Index: index, Weight: weight}
}

// claim returns a claim about the maximum or the minimum distance at a time.
func claim(question api.RangingQuestion, num, den, scale int, terms ...api.RangingTerm) api.RangingClaim {
	return api.RangingClaim{Question: question, Bound: api.Frac{Num: num, Den: den}, Proof: api.RangingProof{Terms: terms, Scale: scale}}
}

func most(time int) api.RangingQuestion {
	return api.RangingQuestion{Time: time, Upper: true}
}

func least(time int) api.RangingQuestion {
	return api.RangingQuestion{Time: time}
}

// wantProof reports an error of CheckProof that differs from the wanted one, and measurements or terms that were modified.
func wantProof(t *testing.T, l []api.RangingMeasurement, c api.RangingClaim, want api.Errno) {
	t.Helper()
	before, terms := slices.Clone(l), slices.Clone(c.Proof.Terms)
	wantError(t, c, ranging.CheckProof(l, c), want)
	wantSame(t, l, before)
	wantSame(t, c.Proof.Terms, terms)
}

// P7.4: example 4, and other proofs, which need not be strict.
func TestCheckProofExamples(t *testing.T) {
	accepts := func(l []api.RangingMeasurement, c api.RangingClaim) {
		t.Helper()
		wantProof(t, l, c, api.OK)
	}
	refuses := func(l []api.RangingMeasurement, c api.RangingClaim) {
		t.Helper()
		wantProof(t, l, c, api.ErrProof)
	}
	accepts(examples(), claim(most(20), 142, 1, 1, upper(1, 2), lower(0, 1)))
	accepts(examples(), claim(most(20), 142, 1, 1, lower(0, 1), upper(1, 2)))
	accepts(examples(), claim(most(20), 143, 1, 1, upper(1, 2), lower(0, 1))) // weaker
	accepts(examples(), claim(most(20), 142, 1, 7, upper(1, 14), lower(0, 7)))
	accepts(examples(), claim(most(20), 142, 1, 1, upper(1, 1), lower(0, 1), upper(1, 1))) // a limit twice
	accepts(examples(), claim(least(20), 138, 1, 1, lower(1, 2), upper(0, 1)))
	accepts(examples(), claim(least(20), 137, 1, 1, lower(1, 2), upper(0, 1)))
	accepts(examples(), claim(least(20), 275, 2, 1, lower(1, 2), upper(0, 1)))
	accepts(examples(), claim(most(5), 223, 2, 2, upper(0, 1), upper(1, 1)))
	accepts(examples(), claim(most(0), 102, 1, 1, upper(0, 1)))
	accepts(examples(), claim(most(0), 104, 1, 1, upper(0, 2), lower(0, 1))) // both limits of one measurement: 204 - 100
	accepts(clashing(), claim(most(5), 132, 1, 1, upper(0, 1), upper(2, 1)))
	refuses(examples(), claim(most(0), 103, 1, 1, upper(0, 2), lower(0, 1)))
	refuses(examples(), claim(most(20), 141, 1, 1, upper(1, 2), lower(0, 1)))
	refuses(examples(), claim(most(20), 283, 2, 1, upper(1, 2), lower(0, 1)))
	refuses(examples(), claim(most(20), 141999999, 1000000, 1, upper(1, 2), lower(0, 1)))
	refuses(examples(), claim(least(20), 139, 1, 1, lower(1, 2), upper(0, 1)))
	refuses(examples(), claim(least(20), 277, 2, 1, lower(1, 2), upper(0, 1)))
	refuses(examples(), claim(least(20), 138, 1, 1, upper(1, 2), lower(0, 1))) // of the other bound
	refuses(examples(), claim(most(20), 142, 1, 1, lower(1, 2), upper(0, 1)))
	refuses(examples(), claim(most(20), 142, 1, 2, upper(1, 2), lower(0, 1))) // of another scale
	refuses(examples(), claim(most(20), 142, 1, 1, upper(1, 2), lower(0, 2)))
	refuses(examples(), claim(most(21), 145, 1, 1, upper(1, 2), lower(0, 1))) // of another time
	refuses(examples(), claim(most(20), 142, 1, 1))
	refuses(nil, claim(most(20), 1000000000, 1, 1))
	refuses(examples(), claim(most(0), 1000000000, 1, 1, upper(0, 1), upper(0, 1)))
}

// P7.4: numbers as large as are permitted, whose products exceed 2^63.
func TestCheckProofLarge(t *testing.T) {
	l := []api.RangingMeasurement{at(1000, -100000, 100000), at(0, -99999, 99999), from(0, 1000, -7, 7)}
	heavy := []api.RangingTerm{upper(0, 1e8), upper(0, 1e8), lower(0, 1e8)}
	wantProof(t, l, claim(most(1000), 300000, 1, 1e8, heavy...), api.OK)
	wantProof(t, l, claim(most(1000), 299999, 1, 1e8, heavy...), api.ErrProof)
	wantProof(t, l, claim(most(1000), 999999999, 1000000000, 1e8, heavy...), api.ErrProof)
	wantProof(t, l, claim(most(1000), 1000000000, 1, 1e8, heavy...), api.OK)
	wantProof(t, l, claim(most(1000), 1000000000, 999999999, 1e8, heavy...), api.ErrProof)
	wantProof(t, l, claim(most(1000), -1000000000, 1, 1e8, heavy...), api.ErrProof)
	wantProof(t, l, claim(least(1000), -300000, 1, 1e8, lower(0, 1e8), lower(0, 1e8), upper(0, 1e8)), api.OK)
	wantProof(t, l, claim(least(1000), -299999, 1, 1e8, lower(0, 1e8), lower(0, 1e8), upper(0, 1e8)), api.ErrProof)
	wantProof(t, l, claim(least(1000), -1000000000, 1, 1e8, lower(0, 1e8)), api.OK)
	wantProof(t, l, claim(least(1000), 1000000000, 1, 1e8, lower(0, 1e8)), api.ErrProof)
	wantProof(t, l, claim(most(1000), 100006, 1, 1e8, upper(1, 1e8), upper(2, 1e8)), api.OK)
	wantProof(t, l, claim(most(1000), 100005, 1, 1e8, upper(1, 1e8), upper(2, 1e8)), api.ErrProof)
	wantProof(t, l, claim(most(1000), 700000, 1, 3e7, upper(0, 1e8), lower(0, 5e7), lower(0, 2e7)), api.OK) // 1.7 10^13 / 3 10^7 = 566666.6
	wantProof(t, l, claim(most(1000), 1700000, 3, 3e7, upper(0, 1e8), lower(0, 5e7), lower(0, 2e7)), api.OK)
	wantProof(t, l, claim(most(1000), 566666663, 1000, 3e7, upper(0, 1e8), lower(0, 5e7), lower(0, 2e7)), api.ErrProof)
	wantProof(t, l, claim(most(1000), 566666667, 1000, 3e7, upper(0, 1e8), lower(0, 5e7), lower(0, 2e7)), api.OK)
}

// P7.4: the errors of CheckProof, in their order.
func TestCheckProofErrors(t *testing.T) {
	good := claim(most(20), 142, 1, 1, upper(1, 2), lower(0, 1))
	// Each entry has an error that comes before those of all later ones.
	type wrong struct {
		want   api.Errno
		change func(*api.RangingClaim)
	}
	var changes []wrong
	add := func(e api.Errno, change func(*api.RangingClaim)) { changes = append(changes, wrong{e, change}) }
	for _, n := range badNumbers(0, 1000) {
		add(api.ErrRange, func(c *api.RangingClaim) { c.Question.Time = n })
	}
	for _, f := range []api.Frac{{}, {Num: 142}, {Num: 142, Den: -1}, {Num: -142, Den: -1}, {Num: 284, Den: 2}, {Num: 0, Den: 5}, {Num: 4000000000, Den: 2}, {Num: 3, Den: 3000000000}, {Num: math.MinInt, Den: 2}, {Num: math.MinInt, Den: math.MinInt}} {
		add(api.ErrForm, func(c *api.RangingClaim) { c.Bound = f })
	}
	for _, f := range []api.Frac{{Num: 1000000001, Den: 1}, {Num: -1000000001, Den: 1}, {Num: 1, Den: 1000000001}, {Num: math.MaxInt, Den: 1}, {Num: math.MinInt, Den: 1}, {Num: math.MinInt, Den: 3}, {Num: 1, Den: math.MaxInt}} {
		add(api.ErrRange, func(c *api.RangingClaim) { c.Bound = f })
	}
	for _, n := range badNumbers(1, 100000000) {
		add(api.ErrRange, func(c *api.RangingClaim) { c.Proof.Scale = n })
	}
	for _, n := range []int{7, 8, 1000} {
		add(api.ErrLarge, func(c *api.RangingClaim) { c.Proof.Terms = repeated(upper(-1, 0), n) })
	}
	for _, n := range badNumbers(0, 1) {
		add(api.ErrMissing, func(c *api.RangingClaim) { c.Proof.Terms = []api.RangingTerm{upper(0, 1), upper(n, 0), upper(0, 0)} })
	}
	for _, n := range badNumbers(1, 100000000) {
		add(api.ErrRange, func(c *api.RangingClaim) { c.Proof.Terms = []api.RangingTerm{lower(0, 1), lower(1, n), lower(2, 1)} })
	}
	add(api.ErrProof, func(c *api.RangingClaim) { c.Proof.Terms = nil })
	wantProof(t, examples(), good, api.OK)
	for i, x := range changes {
		c := good
		x.change(&c)
		wantProof(t, examples(), c, x.want)
		for _, bad := range allBadMeasurements()[:30] {
			wantProof(t, bad.measurements, c, bad.want)
		}
		for _, later := range changes[i+1:] {
			c := good
			later.change(&c)
			x.change(&c)
			if x.want != api.ErrMissing || later.want != api.ErrRange { // both are errors of terms
				wantProof(t, examples(), c, x.want)
			}
		}
	}
	for _, bad := range allBadMeasurements() {
		wantProof(t, bad.measurements, good, bad.want)
	}
	wantProof(t, examples(), claim(most(0), 102, 1, 1, upper(0, 2), upper(0, 2), upper(0, 1), lower(0, 1), lower(0, 1), lower(0, 2)), api.ErrProof) // six terms, of the scale 1
}

// P7.4: the errors of FindProof are those of DistanceIn.
func TestFindProofErrors(t *testing.T) {
	fails := func(l []api.RangingMeasurement, time int, want api.Errno) {
		t.Helper()
		for _, q := range []api.RangingQuestion{most(time), least(time)} {
			got, e := ranging.FindProof(l, q)
			wantError(t, l, e, want)
			if len(got.Terms) != 0 || got.Scale != 0 {
				t.Error(l, got)
			}
		}
	}
	for _, c := range allBadMeasurements() {
		fails(c.measurements, 5, c.want)
		fails(c.measurements, -1, c.want)
	}
	for _, time := range badNumbers(0, 1000) {
		fails(examples(), time, api.ErrRange)
		fails(clashing(), time, api.ErrRange)
		fails(nil, time, api.ErrRange)
	}
	for _, time := range []int{0, 5, 1000} {
		fails(clashing(), time, api.ErrClash)
		fails([]api.RangingMeasurement{at(9, 0, 1), at(9, 2, 3)}, time, api.ErrClash)
		fails(nil, time, api.ErrOpen)
		fails([]api.RangingMeasurement{from(0, 5, 20, 30)}, time, api.ErrOpen)
		fails([]api.RangingMeasurement{at(7, 20, 30)}, time, api.ErrOpen)
	}
}

// wantFound finds a proof of a bound and reports one that has more than two terms or is not accepted, or that is accepted of a stricter bound.
func wantFound(t *testing.T, l []api.RangingMeasurement, q api.RangingQuestion, bound api.Frac) {
	t.Helper()
	before := slices.Clone(l)
	p, e := ranging.FindProof(l, q)
	wantError(t, l, e, api.OK)
	wantSame(t, l, before)
	if len(p.Terms) > 2 {
		t.Error(l, q, p)
	}
	c := api.RangingClaim{Question: q, Bound: bound, Proof: p}
	wantProof(t, l, c, api.OK)
	step := fraction(1, 100000)
	if q.Upper {
		step.Neg(step)
	}
	c.Bound = fracOf(step.Add(step, ratOf(bound)))
	if max(c.Bound.Num, -c.Bound.Num, c.Bound.Den) <= 1e9 {
		wantProof(t, l, c, api.ErrProof)
	}
}

// P7.4: proofs of the examples and the edge cases.
func TestFindProofExamples(t *testing.T) {
	wantFound(t, examples(), most(20), api.Frac{Num: 142, Den: 1})
	wantFound(t, examples(), least(20), api.Frac{Num: 138, Den: 1})
	wantFound(t, examples(), most(5), api.Frac{Num: 223, Den: 2})
	wantFound(t, examples(), least(5), api.Frac{Num: 110, Den: 1})
	wantFound(t, examples(), most(0), api.Frac{Num: 102, Den: 1})
	wantFound(t, examples(), least(10), api.Frac{Num: 120, Den: 1})
	wantFound(t, []api.RangingMeasurement{at(7, 20, 30)}, most(7), api.Frac{Num: 30, Den: 1}) // at its own time
	wantFound(t, []api.RangingMeasurement{at(7, 20, 30)}, least(7), api.Frac{Num: 20, Den: 1})
	wantFound(t, []api.RangingMeasurement{at(0, -5, -5)}, least(0), api.Frac{Num: -5, Den: 1})
	wantFound(t, []api.RangingMeasurement{from(0, 3, 1, 2), at(7, 20, 30)}, most(0), api.Frac{Num: 83, Den: 3})
	wantFound(t, []api.RangingMeasurement{from(0, 3, 1, 2), at(7, 20, 30)}, least(9), api.Frac{Num: 62, Den: 3})
	wantFound(t, append(examples(), at(0, 101, 150), from(0, 2, 4, 100)), most(20), api.Frac{Num: 141, Den: 1})
	wantFound(t, []api.RangingMeasurement{at(999, -100000, -100000), at(1000, 100000, 100000)}, most(0), api.Frac{Num: -199900000, Den: 1})
}

// P7.4: the proof of example 4, whose limits no others can replace.
func TestFindProofExample(t *testing.T) {
	p, e := ranging.FindProof(examples(), most(20))
	wantError(t, p, e, api.OK)
	if p.Terms[0].Index == 0 {
		slices.Reverse(p.Terms)
	}
	if scale := p.Scale; !slices.Equal(p.Terms, []api.RangingTerm{upper(1, 2*scale), lower(0, scale)}) {
		t.Error(p)
	}
}

// P7.11: CheckProof accepts FindProof for the bound of DistanceIn, and no proof of a stricter bound.
func TestFindProofByDefinition(t *testing.T) {
	r := rand.New(rand.NewSource(9))
	proved := 0
	for range 2500 {
		x := spreads()[r.Intn(len(spreads()))]
		l := randomMeasurements(r, x, r.Intn(13))
		if len(l) > 8 {
			x.shift = 0
			l = randomMeasurements(r, x, len(l))
		}
		time := []int{r.Intn(x.time + 1), r.Intn(1001)}[r.Intn(2)]
		bounds, e := distanceByDefinition(l, time)
		if e != api.OK {
			_, got := ranging.FindProof(l, most(time))
			wantError(t, l, got, e)
			_, got = ranging.FindProof(l, least(time))
			wantError(t, l, got, e)
			continue
		}
		wantFound(t, l, least(time), bounds[0])
		wantFound(t, l, most(time), bounds[1])
		proved++
	}
	if proved < 500 {
		t.Error(proved)
	}
}

// randomClaim returns a claim with terms that prove something, or nearly do.
func randomClaim(r *rand.Rand, l []api.RangingMeasurement) api.RangingClaim {
	c := api.RangingClaim{Question: api.RangingQuestion{Time: r.Intn(4), Upper: r.Intn(2) == 0}}
	for range r.Intn(7) {
		c.Proof.Terms = append(c.Proof.Terms, api.RangingTerm{Index: r.Intn(len(l)), Upper: r.Intn(2) == 0, Weight: between(r, 1, 3)})
	}
	c.Proof.Scale = between(r, 1, 3)
	if r.Intn(2) == 0 {
		factor := []int{1, 1000, 30000000}[r.Intn(3)]
		for i := range c.Proof.Terms {
			c.Proof.Terms[i].Weight *= factor
		}
		c.Proof.Scale *= factor
	}
	c.Bound = fracOf(fraction(between(r, -60, 60), between(r, 1, 6)))
	return c
}

// P7.4: claims by the definition, with numbers of any size. P7.11: an accepted bound is not stricter than that of DistanceIn.
func TestCheckProofByDefinition(t *testing.T) {
	r := rand.New(rand.NewSource(10))
	accepted := 0
	for range 100000 {
		l := randomMeasurements(r, spread{time: 3, size: 12, width: 4, shift: 2}, between(r, 1, 5))
		c := randomClaim(r, l)
		if !provesByDefinition(l, c) {
			wantProof(t, l, c, api.ErrProof)
			continue
		}
		wantProof(t, l, c, api.OK)
		accepted++
		bounds, e := ranging.DistanceIn(l, c.Question.Time)
		if e == api.ErrClash {
			continue // anything can be proved
		}
		wantError(t, l, e, api.OK)
		if stricter := ratOf(c.Bound).Cmp(ratOf(bounds[1])) < 0; stricter && c.Question.Upper {
			t.Error(l, c, bounds)
		}
		if stricter := ratOf(c.Bound).Cmp(ratOf(bounds[0])) > 0; stricter && !c.Question.Upper {
			t.Error(l, c, bounds)
		}
	}
	if accepted < 300 {
		t.Error(accepted)
	}
}

// R3: proofs share no memory with one another.
func TestFindProofSeparate(t *testing.T) {
	first, e := ranging.FindProof(examples(), most(20))
	wantError(t, "first", e, api.OK)
	second, e := ranging.FindProof(examples(), most(20))
	wantError(t, "second", e, api.OK)
	before := slices.Clone(second.Terms)
	whole := first.Terms[:cap(first.Terms)]
	copy(whole, repeated(upper(9, 9), len(whole)))
	wantSame(t, second.Terms, before)
}
