package carrier_test

import (
	"math/rand"
	"slices"
	"testing"

	"cassegrain/api"
	"cassegrain/carrier"
)

// drift returns a loop without gains: with the step 0 the deviation decreases by the frequency.
func drift(frequency int) api.CarrierLoop {
	return api.CarrierLoop{Den: 1, Frequency: frequency}
}

// onePath returns a class with one input for each first deviation.
func onePath(start api.Range, step int) api.CarrierClass {
	return api.CarrierClass{Start: start, Steps: span(step, step)}
}

// repeated returns so many times the same input.
func repeated(noise, step, count int) []api.CarrierInput {
	return slices.Repeat([]api.CarrierInput{{Noise: noise, Step: step}}, count)
}

// P3.5: the limits of classes.
func TestCheckClass(t *testing.T) {
	for _, c := range badClasses() {
		wantError(t, c.value, carrier.CheckClass(c.value), c.want)
	}
	for _, c := range []api.CarrierClass{
		{}, goodClass(),
		{Start: span(-2048, 2047), Steps: span(2039, 2047), Noise: 100},
		{Start: span(2047, 2047), Steps: span(-2048, -2040)},
	} {
		wantError(t, c, carrier.CheckClass(c), api.OK)
	}
}

// P3.5: example 8, both borders, failures by noise alone, and limited frequencies.
func TestCheckTrial(t *testing.T) {
	type in = api.CarrierInput
	trial := func(start int, inputs ...in) api.CarrierTrial {
		return api.CarrierTrial{Start: start, Inputs: inputs}
	}
	wide := api.CarrierClass{Start: span(-2048, 2047), Steps: span(0, 1), Noise: 3}
	steep := api.CarrierLoop{First: 4, Den: 1}
	second := api.CarrierLoop{Second: 3, Den: 2}     // 1000, -500, -1250, -125
	limited := api.CarrierLoop{Second: 1000, Den: 1} // with the frequencies 2047, -2048: 1500, -547, 1501
	both := api.CarrierLoop{First: 1, Second: 1000, Den: 1}
	for _, c := range []struct {
		l    api.CarrierLoop
		c    api.CarrierClass
		x    api.CarrierTrial
		n    int
		want api.Errno
	}{
		{drift(0), goodClass(), trial(0, repeated(0, 10, 206)...), 206, api.OK},
		{drift(0), goodClass(), trial(0, repeated(0, 10, 205)...), 0, api.ErrProof},
		{drift(0), goodClass(), trial(0, repeated(0, 10, 207)...), 0, api.ErrState},
		{goodLoop(), goodClass(), trial(0, repeated(0, 10, 3000)...), 0, api.ErrProof},
		{drift(0), wide, trial(2047, in{Noise: 1}), 1, api.OK},
		{drift(0), wide, trial(2047, in{Noise: 0}), 0, api.ErrProof},
		{drift(0), wide, trial(2045, in{Noise: 3}), 1, api.OK},
		{drift(0), wide, trial(2044, in{Noise: 3}), 0, api.ErrProof},
		{drift(0), wide, trial(-2048, in{Noise: -1}), 1, api.OK},
		{drift(0), wide, trial(-2048, in{Noise: 0}), 0, api.ErrProof},
		{drift(0), wide, trial(-2045, in{Noise: -3}), 0, api.ErrProof},
		{drift(0), wide, trial(-2046, in{Noise: -3, Step: 1}), 1, api.OK},
		{drift(0), wide, trial(2047, in{Step: 1}, in{}), 2, api.OK},
		{drift(0), wide, trial(2047, in{Step: 1}, in{Noise: -1}), 0, api.ErrProof},
		{drift(1), wide, trial(-2048, in{}, in{}), 2, api.OK},
		{drift(1), wide, trial(-2048, in{Step: 1}, in{}), 0, api.ErrProof},
		{drift(0), wide, trial(2047, in{Noise: 1}, in{Noise: 1}), 0, api.ErrState},
		{steep, wide, trial(684, in{}, in{}), 2, api.OK},                   // 684 - 4 * 684 = -2052
		{steep, wide, trial(684, in{Noise: -1}, in{}), 0, api.ErrProof},    // 684 - 4 * 683 = -2048
		{steep, wide, trial(684, in{Noise: -1}, in{Noise: -1}), 2, api.OK}, // the noise counts only where it is
		{steep, wide, trial(-682, in{}, in{Noise: 1}), 0, api.ErrProof},    // -682 + 4 * 682 = 2046
		{steep, wide, trial(-682, in{Step: 1}, in{Noise: 1}), 2, api.OK},   // 2047
		{second, wide, trial(1000, in{}, in{}, in{}), 0, api.ErrProof},
		{second, wide, trial(1000, in{}, in{}, in{Step: 1}), 0, api.ErrProof},
		{limited, wide, trial(1500, in{}, in{}, in{}), 0, api.ErrProof},
		{both, wide, trial(10, in{}, in{Noise: -1}), 0, api.ErrProof}, // 10 - (2047 + 10) = -2047
		{both, wide, trial(10, in{}, in{Noise: -2}), 2, api.OK},
	} {
		if n, e := carrier.CheckTrial(c.l, c.c, c.x); n != c.n || e != c.want {
			t.Error(c.l, c.c, c.x.Start, len(c.x.Inputs), n, e, c.n, c.want)
		}
	}
}

// trialByDefinition returns the error of CheckTrial for a valid loop and class.
func trialByDefinition(l api.CarrierLoop, c api.CarrierClass, x api.CarrierTrial) api.Errno {
	switch {
	case x.Start < c.Start.Lo || x.Start > c.Start.Hi:
		return api.ErrRange
	case len(x.Inputs) == 0:
		return api.ErrShape
	case len(x.Inputs) > 3000:
		return api.ErrLarge
	}
	p := pair{l.Frequency, x.Start}
	for n, in := range x.Inputs {
		if in.Noise < -c.Noise || in.Noise > c.Noise || in.Step < c.Steps.Lo || in.Step > c.Steps.Hi {
			return api.ErrRange
		}
		if fails(p, in.Noise) {
			if n < len(x.Inputs)-1 {
				return api.ErrState
			}
			return api.OK
		}
		p = after(l, p, in)
	}
	return api.ErrProof
}

// wantCheck compares CheckTrial with the definition.
func wantCheck(t *testing.T, l api.CarrierLoop, c api.CarrierClass, x api.CarrierTrial) {
	t.Helper()
	want, count := trialByDefinition(l, c, x), 0
	if want == api.OK {
		count = len(x.Inputs)
	}
	if n, e := carrier.CheckTrial(l, c, x); e != want || n != count {
		t.Fatal(l, c, x, n, e, want)
	}
}

// changed returns a trial with a small change, which may make it wrong.
func changed(r *rand.Rand, x api.CarrierTrial) api.CarrierTrial {
	x.Inputs = slices.Clone(x.Inputs)
	if len(x.Inputs) == 0 {
		return x
	}
	at := r.Intn(len(x.Inputs))
	switch r.Intn(6) {
	case 0:
		x.Inputs = x.Inputs[:at]
	case 1:
		x.Inputs = append(x.Inputs, x.Inputs[at])
	case 2:
		x.Inputs[at].Noise += between(r, -1, 1)
	case 3:
		x.Inputs[at].Step += between(r, -1, 1)
	case 4:
		x.Start += between(r, -1, 1)
	}
	return x
}

// P3.5: trials by the definition: shortest ones, random ones, and those that differ from them.
func TestTrialsByDefinition(t *testing.T) {
	r := rand.New(rand.NewSource(18))
	seen := map[api.Errno]int{}
	for range 400 {
		l, c := quietLoop(r), quietClass(r)
		if r.Intn(2) == 0 {
			l = api.CarrierLoop{First: r.Intn(3), Second: r.Intn(2), Den: between(r, 40, 80), Frequency: between(r, -90, 90)}
		}
		x, e := carrier.FirstFailure(l, c)
		if e != api.OK {
			inputs := inputsOf(c)
			x.Start = between(r, c.Start.Lo, c.Start.Hi)
			for range between(r, 0, 40) {
				x.Inputs = append(x.Inputs, inputs[r.Intn(len(inputs))])
			}
		}
		wantCheck(t, l, c, x)
		for range 8 {
			y := changed(r, x)
			before := slices.Clone(y.Inputs)
			seen[trialByDefinition(l, c, y)]++
			wantCheck(t, l, c, y)
			wantSame(t, "the inputs", y.Inputs, before)
		}
	}
	for _, e := range []api.Errno{api.OK, api.ErrRange, api.ErrShape, api.ErrState, api.ErrProof} {
		if seen[e] == 0 {
			t.Error("no trial with the error", e)
		}
	}
}

// P3.5: the errors of a loop, a class and a trial, in their order.
func TestCheckTrialErrors(t *testing.T) {
	wantNone := func(l api.CarrierLoop, c api.CarrierClass, start int, inputs []api.CarrierInput, want api.Errno) {
		t.Helper()
		n, e := carrier.CheckTrial(l, c, api.CarrierTrial{Start: start, Inputs: inputs})
		wantError(t, c, e, want)
		if n != 0 {
			t.Error(l, c, start, len(inputs), n)
		}
	}
	fine := repeated(0, 10, 206)
	for _, l := range badLoops() {
		wantNone(l, goodClass(), 0, fine, api.ErrRange)
		wantNone(l, api.CarrierClass{Start: span(1, 0)}, 0, nil, api.ErrRange) // before those of the class
	}
	for _, c := range badClasses() {
		wantNone(drift(0), c.value, 0, fine, c.want)
		wantNone(drift(0), c.value, 5000, nil, c.want)
	}
	c := api.CarrierClass{Start: span(-2, 3), Steps: span(10, 12), Noise: 4}
	for _, start := range badNumbers(-2, 3) {
		wantNone(drift(0), c, start, fine, api.ErrRange)
		wantNone(drift(0), c, start, nil, api.ErrRange) // before the shape
		wantNone(drift(0), c, start, repeated(0, 10, 3001), api.ErrRange)
	}
	wantNone(drift(0), c, 0, nil, api.ErrShape)
	wantNone(drift(0), c, 0, repeated(0, 10, 3001), api.ErrLarge)
	wantNone(drift(0), c, 0, repeated(5, 9, 3001), api.ErrLarge) // before those of the samples
	with := func(at int, in api.CarrierInput, count int) []api.CarrierInput {
		inputs := repeated(0, 10, count)
		inputs[at] = in
		return inputs
	}
	for _, n := range badNumbers(-4, 4) {
		wantNone(drift(0), c, 0, with(100, api.CarrierInput{Noise: n, Step: 10}, 206), api.ErrRange)
		wantNone(drift(0), c, 0, with(205, api.CarrierInput{Noise: n, Step: 10}, 206), api.ErrRange) // before the failure
		wantNone(drift(0), c, 0, with(206, api.CarrierInput{Noise: n, Step: 10}, 207), api.ErrState) // the failure of an earlier sample
		wantNone(drift(0), c, 0, with(4, api.CarrierInput{Noise: n, Step: 10}, 5), api.ErrRange)     // before the proof
	}
	for _, n := range badNumbers(10, 12) {
		wantNone(drift(0), c, 0, with(100, api.CarrierInput{Step: n}, 206), api.ErrRange)
		wantNone(drift(0), c, 0, with(205, api.CarrierInput{Step: n}, 206), api.ErrRange)
		wantNone(drift(0), c, 0, with(205, api.CarrierInput{Step: n}, 207), api.ErrRange) // before the state
		wantNone(drift(0), c, 0, with(206, api.CarrierInput{Step: n}, 207), api.ErrState)
	}
	for _, noise := range []int{-4, 4} {
		wantNone(drift(0), c, 0, with(100, api.CarrierInput{Noise: noise, Step: 10}, 205), api.ErrProof)
	}
}

// P3.5: a trial of the greatest length, and one that is longer.
func TestLongTrials(t *testing.T) {
	c := onePath(span(-952, -951), 1)
	for _, want := range []struct {
		start, count, n int
		e               api.Errno
	}{
		{-951, 3000, 3000, api.OK},
		{-951, 2999, 0, api.ErrProof},
		{-952, 3000, 0, api.ErrProof},
		{-952, 3001, 0, api.ErrLarge},
	} {
		n, e := carrier.CheckTrial(drift(0), c, api.CarrierTrial{Start: want.start, Inputs: repeated(0, 1, want.count)})
		wantError(t, want, e, want.e)
		if n != want.n {
			t.Error(want, n)
		}
	}
	x, e := carrier.FirstFailure(drift(0), onePath(span(-951, -951), 1))
	wantError(t, "3000 pairs", e, api.OK)
	if x.Start != -951 {
		t.Error(x.Start)
	}
	wantSame(t, "3000 pairs", x.Inputs, repeated(0, 1, 3000))
	wantFailure(t, drift(0), onePath(span(-952, -952), 1), 0, api.ErrLarge)
}

// wantFailure checks what FirstFailure returns: an error, or an input with so many samples that is accepted.
func wantFailure(t *testing.T, l api.CarrierLoop, c api.CarrierClass, samples int, want api.Errno) {
	t.Helper()
	x, e := carrier.FirstFailure(l, c)
	if e != want || len(x.Inputs) != samples || e != api.OK && x.Start != 0 {
		t.Fatal(l, c, len(x.Inputs), e, samples, want)
	}
	if e == api.OK && trialByDefinition(l, c, x) != api.OK {
		t.Fatal(l, c, x)
	}
	if e == api.OK {
		wantCheck(t, l, c, x)
	}
}

// P3.5: examples 7 and 8, and failures at the first samples.
func TestFirstFailure(t *testing.T) {
	noisy := goodClass()
	noisy.Noise = 4
	for _, c := range []struct {
		l    api.CarrierLoop
		c    api.CarrierClass
		n    int
		want api.Errno
	}{
		{drift(0), goodClass(), 206, api.OK},
		{goodLoop(), goodClass(), 0, api.ErrNone},
		{goodLoop(), noisy, 0, api.ErrNone},
		{drift(10), goodClass(), 0, api.ErrNone},
		{drift(9), goodClass(), 2049, api.OK},
		{drift(11), goodClass(), 2050, api.OK},
		{drift(0), onePath(span(2047, 2047), 0), 0, api.ErrNone},
		{drift(0), onePath(span(-2048, -2048), 0), 0, api.ErrNone},
		{drift(0), onePath(span(2047, 2047), 1), 2, api.OK},
		{drift(0), onePath(span(-2048, -2048), -1), 2, api.OK},
		{drift(0), onePath(span(-2048, -2048), 1), 0, api.ErrLarge},
		{drift(0), api.CarrierClass{Start: span(2047, 2047), Noise: 1}, 1, api.OK},
		{drift(0), api.CarrierClass{Start: span(-2048, -2048), Noise: 1}, 1, api.OK},
		{drift(0), api.CarrierClass{Start: span(1947, 1947), Noise: 100}, 0, api.ErrNone},
		{drift(0), api.CarrierClass{Start: span(1940, 1948), Noise: 100}, 1, api.OK},
		{drift(0), api.CarrierClass{Start: span(-1948, -1948), Noise: 100}, 0, api.ErrNone},
		{drift(0), api.CarrierClass{Start: span(-1949, 0), Noise: 100}, 1, api.OK},
		{drift(0), api.CarrierClass{Steps: span(-1, 4)}, 513, api.OK},
		{drift(0), api.CarrierClass{Steps: span(-1, 4), Noise: 8}, 511, api.OK},
		{api.CarrierLoop{First: 1000, Den: 1}, api.CarrierClass{Noise: 3}, 2, api.OK},
		{api.CarrierLoop{First: 1000, Second: 1000, Den: 1}, api.CarrierClass{}, 0, api.ErrNone},
	} {
		wantFailure(t, c.l, c.c, c.n, c.want)
	}
}

// P3.5: as many pairs as may be examined, and one more, with and without failures.
func TestExaminedPairs(t *testing.T) {
	wantFailure(t, drift(0), onePath(span(-1500, 1499), 0), 0, api.ErrNone)
	wantFailure(t, drift(0), onePath(span(-1500, 1500), 0), 0, api.ErrLarge)
	wantFailure(t, drift(0), onePath(span(-951, 1948), 100), 2, api.OK) // the pairs of the last sample count: -851 to 2048
	wantFailure(t, drift(0), onePath(span(-952, 1948), 100), 0, api.ErrLarge)
	wantFailure(t, drift(0), onePath(span(-852, 1948), 200), 0, api.ErrLarge) // -852 to 2148 are 3001
	wantFailure(t, drift(0), onePath(span(-951, 1948), 99), 0, api.ErrLarge)  // no failure before 2146
	wantFailure(t, drift(0), api.CarrierClass{Start: span(-952, 2047), Noise: 1}, 1, api.OK)
	wantFailure(t, drift(0), api.CarrierClass{Start: span(-953, 2047), Noise: 1}, 0, api.ErrLarge)
	wantFailure(t, drift(0), onePath(span(-2048, 2047), 0), 0, api.ErrLarge)
	steep := api.CarrierLoop{First: 500, Den: 1} // each error leads to deviations of its own: of 0 to 5, with all noises and steps, 2854, and of 0 to 6 3063
	wantFailure(t, steep, api.CarrierClass{Start: span(0, 5), Steps: span(0, 8), Noise: 100}, 2, api.OK)
	wantFailure(t, steep, api.CarrierClass{Start: span(0, 6), Steps: span(0, 8), Noise: 100}, 0, api.ErrLarge)
}

// P3.5: shortest failures by the definition, of loops and classes of all kinds.
func TestFirstFailureByDefinition(t *testing.T) {
	r := rand.New(rand.NewSource(19))
	seen, long := map[api.Errno]int{}, 0
	for i := range 400 {
		l, c := quietLoop(r), quietClass(r)
		switch i % 4 {
		case 0:
			l = randomLoop(r)
		case 1:
			l = api.CarrierLoop{First: r.Intn(3), Second: r.Intn(2), Den: between(r, 40, 80), Frequency: between(r, -90, 90)}
		case 2:
			c.Start = ranges(r, span(-2048, 2047), 3)
		}
		n, want := failureByDefinition(l, c)
		wantFailure(t, l, c, n, want)
		seen[want]++
		if n > 2 {
			long++
		}
	}
	if seen[api.OK] == 0 || seen[api.ErrNone] == 0 || seen[api.ErrLarge] == 0 || long == 0 {
		t.Error(seen, long)
	}
}

// P3.5: the errors of a loop and a class.
func TestFirstFailureErrors(t *testing.T) {
	for _, l := range badLoops() {
		wantFailure(t, l, goodClass(), 0, api.ErrRange)
		wantFailure(t, l, api.CarrierClass{Start: span(1, 0)}, 0, api.ErrRange)
	}
	for _, c := range badClasses() {
		wantFailure(t, goodLoop(), c.value, 0, c.want)
	}
}
