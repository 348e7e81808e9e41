package ranging_test

import (
	"math"
	"math/big"
	"math/rand"
	"slices"
	"testing"

	"cassegrain/api"
	"cassegrain/ranging"
)

// exampleTones returns the tones of example 1.
func exampleTones() []api.RangingTone {
	return []api.RangingTone{tone(10, 3, 4), tone(7, 1, 1)}
}

func limit(lo, hi int) api.Range {
	return api.Range{Lo: lo, Hi: hi}
}

// badTones is tones that are not valid, the index of the wrong one, and the error.
type badTones struct {
	tones []api.RangingTone
	index int
	want  api.Errno
}

// allBadTones returns tones that are not valid, some of them for several reasons.
func allBadTones() []badTones {
	l := []badTones{
		{repeated(tone(10, 3, 4), 9), 0, api.ErrLarge},
		{repeated(tone(0, 3, 2), 9), 0, api.ErrLarge},
		{repeated(tone(10, 3, 4), 1000), 0, api.ErrLarge},
	}
	for i := range 3 {
		add := func(e api.Errno, x api.RangingTone) {
			good := []api.RangingTone{tone(10, 3, 4), tone(7, 1, 1), tone(5, 4, 8)}
			l = append(l, badTones{with(good, i, x), i, e})
			l = append(l, badTones{append(with(good, i, x), tone(-1, 0, 0), tone(3, 2, 1)), i, e})
		}
		for _, n := range badNumbers(1, 100000) {
			add(api.ErrRange, tone(n, 0, 0))
			add(api.ErrRange, tone(n, 1, 0))
		}
		for _, n := range badNumbers(0, 9) {
			add(api.ErrRange, tone(10, n, n))
			add(api.ErrRange, tone(10, n, n-1))
			add(api.ErrRange, tone(10, n, math.MaxInt))
		}
		add(api.ErrRange, tone(1, 1, 1))
		add(api.ErrOrder, tone(10, 4, 3))
		add(api.ErrOrder, tone(10, 0, -1))
		add(api.ErrOrder, tone(10, 9, math.MinInt))
		add(api.ErrBreak, tone(10, 0, 10))
		add(api.ErrBreak, tone(10, 9, 19))
		add(api.ErrBreak, tone(1, 0, 1))
		add(api.ErrBreak, tone(100000, 99999, 199999))
		add(api.ErrBreak, tone(10, 3, math.MaxInt))
	}
	return l
}

// badLimit is a limit that is not valid, and its error.
type badLimit struct {
	limit api.Range
	want  api.Errno
}

// badLimits returns limits that are not valid, some of them for several reasons.
func badLimits() []badLimit {
	l := []badLimit{
		{limit(1, 0), api.ErrOrder},
		{limit(1000000000, 0), api.ErrOrder},
		{limit(1000000000, 999999999), api.ErrOrder},
		{limit(0, 100000), api.ErrLarge},
		{limit(0, 1000000000), api.ErrLarge},
		{limit(999900000, 1000000000), api.ErrLarge},
		{limit(5, 100005), api.ErrLarge},
	}
	for _, n := range badNumbers(0, 1000000000) {
		l = append(l, badLimit{limit(n, 50), api.ErrRange}, badLimit{limit(50, n), api.ErrRange}, badLimit{limit(n, n), api.ErrRange})
		l = append(l, badLimit{limit(n, 200000), api.ErrRange}, badLimit{limit(200000, n), api.ErrRange})
	}
	return l
}

// P7.1: tones within the limits, and the errors of others with the index of the tone.
func TestCheckTones(t *testing.T) {
	for _, l := range [][]api.RangingTone{
		nil, {}, exampleTones(), repeated(tone(10, 3, 4), 8),
		{tone(1, 0, 0)}, {tone(10, 0, 9)}, {tone(10, 9, 18)}, {tone(10, 9, 9)}, {tone(100000, 0, 0)}, {tone(100000, 99999, 199998)},
	} {
		before := slices.Clone(l)
		index, e := ranging.CheckTones(l)
		wantValue(t, l, index, e, 0)
		wantSame(t, l, before)
	}
	for _, c := range allBadTones() {
		index, e := ranging.CheckTones(c.tones)
		wantError(t, c, e, c.want)
		if index != c.index {
			t.Error(c, index)
		}
	}
}

// P7.1: the errors of tones and limits, in their order, of all functions that have them.
func TestToneErrors(t *testing.T) {
	fails := func(what any, l []api.RangingTone, x api.Range, want api.Errno) {
		t.Helper()
		ranges, e := ranging.Candidates(l, x)
		wantNoSlice(t, what, ranges, e, want)
		only, e := ranging.Resolved(l, x)
		wantNoValue(t, what, only, e, want)
		set, e := ranging.ContradictingTones(l, x)
		wantNoSlice(t, what, set, e, want)
	}
	for _, c := range allBadTones() {
		fails(c, c.tones, limit(0, 100), c.want)
		fails(c, c.tones, limit(-1, 200000), c.want)
		n, e := ranging.AmbiguityOf(c.tones)
		wantNoValue(t, c, n, e, c.want)
	}
	for _, c := range badLimits() {
		fails(c, exampleTones(), c.limit, c.want)
		fails(c, nil, c.limit, c.want)
	}
}

// P7.1: examples 1 and 2, and the edge cases of the chapter.
func TestCandidatesExamples(t *testing.T) {
	same := func(l []api.RangingTone, x api.Range, want ...api.Range) {
		t.Helper()
		got, e := ranging.Candidates(l, x)
		wantSlice(t, l, got, e, want)
	}
	same(exampleTones(), limit(0, 100), limit(43, 43), limit(64, 64))
	same(exampleTones(), limit(0, 60), limit(43, 43))
	same(exampleTones(), limit(44, 63))
	same(exampleTones(), limit(43, 64), limit(43, 43), limit(64, 64)) // both ends
	same(append(exampleTones(), tone(2, 0, 0)), limit(0, 100), limit(64, 64))
	same([]api.RangingTone{tone(2, 1, 1), tone(4, 0, 0)}, limit(0, 100))
	same([]api.RangingTone{tone(7, 3, 3), tone(5, 2, 2)}, limit(0, 100), limit(17, 17), limit(52, 52), limit(87, 87)) // example 7 of DOC.md
	same(nil, limit(0, 99999), limit(0, 99999))                                                                       // no tones
	same(nil, limit(1000000000, 1000000000), limit(1000000000, 1000000000))
	same([]api.RangingTone{tone(10, 4, 13)}, limit(5, 40), limit(5, 40)) // says nothing
	same([]api.RangingTone{tone(10, 0, 9), tone(1, 0, 0)}, limit(5, 40), limit(5, 40))
	same([]api.RangingTone{tone(10, 8, 11)}, limit(0, 30), limit(0, 1), limit(8, 11), limit(18, 21), limit(28, 30)) // over the end of the period
	same([]api.RangingTone{tone(10, 2, 6), tone(10, 5, 8)}, limit(0, 19), limit(5, 6), limit(15, 16))               // of one period
	same([]api.RangingTone{tone(10, 2, 8), tone(10, 7, 13)}, limit(0, 19), limit(2, 3), limit(7, 8), limit(12, 13), limit(17, 18))
	same([]api.RangingTone{tone(100000, 99999, 100000)}, limit(999900001, 1000000000), limit(999999999, 1000000000))
	same([]api.RangingTone{tone(100000, 99999, 99999)}, limit(0, 99998))
}

// P7.1: at most 50 ranges, while Resolved answers that there are several.
func TestCandidatesLarge(t *testing.T) {
	even := []api.RangingTone{tone(2, 0, 0)}
	got, e := ranging.Candidates(even, limit(0, 99))
	wantError(t, "50 ranges", e, api.OK)
	if len(got) != 50 || got[49] != limit(98, 98) {
		t.Error(got)
	}
	for _, hi := range []int{100, 101, 99999} {
		got, e := ranging.Candidates(even, limit(0, hi))
		wantNoSlice(t, hi, got, e, api.ErrLarge)
		only, e := ranging.Resolved(even, limit(0, hi))
		wantNoValue(t, hi, only, e, api.ErrOpen)
	}
}

// P7.1: example 1, and other numbers of ranges.
func TestResolved(t *testing.T) {
	same := func(l []api.RangingTone, x, want api.Range) {
		t.Helper()
		got, e := ranging.Resolved(l, x)
		wantValue(t, l, got, e, want)
	}
	fails := func(l []api.RangingTone, x api.Range, want api.Errno) {
		t.Helper()
		got, e := ranging.Resolved(l, x)
		wantNoValue(t, l, got, e, want)
	}
	same(exampleTones(), limit(0, 60), limit(43, 43))
	same(append(exampleTones(), tone(2, 0, 0)), limit(0, 100), limit(64, 64))
	same(nil, limit(0, 0), limit(0, 0))
	same(nil, limit(7, 99), limit(7, 99))
	same([]api.RangingTone{tone(10, 3, 5)}, limit(4, 12), limit(4, 5))
	fails(exampleTones(), limit(0, 100), api.ErrOpen)
	fails([]api.RangingTone{tone(10, 3, 5)}, limit(4, 13), api.ErrOpen)
	fails(exampleTones(), limit(0, 42), api.ErrNone)
	fails([]api.RangingTone{tone(2, 1, 1), tone(4, 0, 0)}, limit(0, 1000), api.ErrNone)
}

// randomTones returns valid tones with periods up to a number, some of which are equal, or say nothing.
func randomTones(r *rand.Rand, count, longest int) []api.RangingTone {
	l := make([]api.RangingTone, count)
	for i := range l {
		period := between(r, 1, longest)
		if i > 0 && r.Intn(4) == 0 {
			period = l[i-1].Period
		}
		lo := r.Intn(period)
		l[i] = tone(period, lo, lo+r.Intn(period))
		if r.Intn(3) == 0 {
			l[i].Remainder.Hi = lo + r.Intn(period)/3
		}
	}
	return l
}

// distancesOf returns the distances of ranges, and reports ranges that are empty, not maximal, or do not ascend.
func distancesOf(t *testing.T, ranges []api.Range) []int {
	t.Helper()
	var l []int
	for _, x := range ranges {
		if x.Lo > x.Hi || len(l) > 0 && l[len(l)-1] >= x.Lo-1 {
			t.Error(ranges)
		}
		for distance := x.Lo; distance <= x.Hi; distance++ {
			l = append(l, distance)
		}
	}
	return l
}

// P7.8: the ranges of Candidates contain exactly the distances that fit all tones; Resolved is the only one of them. P7.9: a further tone adds none.
func TestCandidatesByDefinition(t *testing.T) {
	r := rand.New(rand.NewSource(1))
	counts := map[api.Errno]int{}
	for range 800 {
		l := randomTones(r, r.Intn(9), between(r, 1, 40))
		x := limit(r.Intn(1000000), 0)
		x.Hi = x.Lo + r.Intn(150)
		before := slices.Clone(l)
		var want []int
		for n := len(l); n >= 0; n-- {
			ranges, e := ranging.Candidates(l[:n], x)
			if e == api.ErrLarge {
				counts[e]++
				continue
			}
			all := candidatesByDefinition(l[:n], x)
			wantSlice(t, l[:n], distancesOf(t, ranges), e, all)
			if slices.ContainsFunc(want, func(distance int) bool { return !slices.Contains(all, distance) }) {
				t.Error(l[:n+1], "added a candidate")
			}
			want = all
			only, e := ranging.Resolved(l[:n], x)
			counts[e]++
			switch len(ranges) {
			case 0:
				wantNoValue(t, l[:n], only, e, api.ErrNone)
			case 1:
				wantValue(t, l[:n], only, e, ranges[0])
			default:
				wantNoValue(t, l[:n], only, e, api.ErrOpen)
			}
		}
		wantSame(t, l, before)
	}
	for _, e := range []api.Errno{api.OK, api.ErrNone, api.ErrOpen, api.ErrLarge} {
		if counts[e] < 20 {
			t.Error(e, counts[e])
		}
	}
}

// tonesOf returns tones with these periods.
func tonesOf(periods ...int) []api.RangingTone {
	var l []api.RangingTone
	for _, period := range periods {
		l = append(l, tone(period, 0, 0))
	}
	return l
}

// P7.1: example 1, and other ambiguities, up to MaxNumber.
func TestAmbiguityExamples(t *testing.T) {
	same := func(want int, periods ...int) {
		t.Helper()
		n, e := ranging.AmbiguityOf(tonesOf(periods...))
		wantValue(t, periods, n, e, want)
	}
	large := func(periods ...int) {
		t.Helper()
		n, e := ranging.AmbiguityOf(tonesOf(periods...))
		wantNoValue(t, periods, n, e, api.ErrLarge)
	}
	n, e := ranging.AmbiguityOf(exampleTones())
	wantValue(t, "example 1", n, e, 70)
	same(1) // without tones
	same(1, 1)
	same(35, 7, 5)
	same(4, 2, 4)
	same(12, 4, 6)
	same(30, 6, 10, 15)
	same(100000, repeated(100000, 8)...)
	same(999960000300000, 100000, 99999, 99997)
	same(999960000300000, 100000, 99999, 99997, 100000, 99999, 99997, 50000, 3)
	same(1000000000000000-8, 57991, 49999, 43111, 8)
	same(1000000000000000-8, 8, 43111, 49999, 57991)
	large(63637, 28093, 50851, 11) // 10^15 + 1
	large(57991, 49999, 43111, 16)
	large(100000, 99999, 99997, 7)
	large(99991, 99989, 99971, 99961, 99929, 99923, 99907, 99901) // primes, whose product is above 2^63
}

// P7.1: the ambiguity by the definition, as the product of all periods divided by what they have in common. P7.8: a distance that fits all tones does so with any multiple of it added.
func TestAmbiguityByDefinition(t *testing.T) {
	r := rand.New(rand.NewSource(2))
	small, large := 0, 0
	for range 3000 {
		l := randomTones(r, r.Intn(9), []int{12, 60, 300, 3000, 100000}[r.Intn(5)])
		want := big.NewInt(1)
		for _, x := range l {
			period := big.NewInt(int64(x.Period))
			common := new(big.Int).GCD(nil, nil, want, period)
			want.Div(want.Mul(want, period), common)
		}
		n, e := ranging.AmbiguityOf(l)
		if want.Cmp(big.NewInt(1e15)) > 0 {
			wantNoValue(t, l, n, e, api.ErrLarge)
			large++
			continue
		}
		wantValue(t, l, n, e, int(want.Int64()))
		if n > 100000000 {
			continue
		}
		small++
		for distance := range 20 {
			if fitAllByDefinition(l, distance) != fitAllByDefinition(l, distance+n*between(r, 1, 9)) {
				t.Error(l, distance)
			}
		}
	}
	if small < 500 || large < 200 {
		t.Error(small, large)
	}
}

// P7.8: in the range of Candidates a candidate is repeated after the ambiguity, and no smaller number has this property for tones with one remainder.
func TestAmbiguityRepeats(t *testing.T) {
	r := rand.New(rand.NewSource(3))
	for range 200 {
		period, other, distance := between(r, 1, 60), between(r, 1, 60), r.Intn(1000)
		l := []api.RangingTone{tone(period, distance%period, distance%period), tone(other, distance%other, distance%other)}
		n, e := ranging.AmbiguityOf(l)
		wantError(t, l, e, api.OK)
		ranges, e := ranging.Candidates(l, limit(distance, distance+2*n))
		want := []int{distance, distance + n, distance + 2*n}
		wantSlice(t, l, distancesOf(t, ranges), e, want)
	}
}

// P7.1: example 2, and other tones that contradict each other in a limit.
func TestContradictingTonesExamples(t *testing.T) {
	same := func(l []api.RangingTone, x api.Range, want ...int) {
		t.Helper()
		got, e := ranging.ContradictingTones(l, x)
		wantSlice(t, l, got, e, want)
	}
	none := func(l []api.RangingTone, x api.Range) {
		t.Helper()
		got, e := ranging.ContradictingTones(l, x)
		wantNoSlice(t, l, got, e, api.ErrNone)
	}
	odd := append(exampleTones(), tone(2, 1, 1), tone(4, 0, 0))
	same(odd, limit(0, 1000), 2, 3)
	same(odd, limit(0, 99999), 2, 3)
	same(exampleTones(), limit(0, 42), 0, 1)
	same(exampleTones(), limit(5, 7), 0) // a single one, of two such
	same(exampleTones(), limit(3, 7), 1)
	same(repeated(tone(100, 50, 60), 8), limit(0, 49), 0)
	same(append(exampleTones(), tone(3, 0, 0)), limit(43, 66), 0, 1, 2) // all three: 43 and 64 are 1 modulo 3
	same([]api.RangingTone{tone(5, 0, 0), tone(3, 0, 0), tone(3, 1, 1), tone(5, 1, 1)}, limit(0, 1000), 0, 3)
	same([]api.RangingTone{tone(1, 0, 0), tone(2, 0, 0), tone(4, 3, 3), tone(4, 1, 1)}, limit(0, 1000), 1, 2)
	none(exampleTones(), limit(0, 100))
	none(exampleTones(), limit(43, 43))
	none(nil, limit(5, 5))
	none(repeated(tone(10, 0, 9), 8), limit(0, 99999))
}

// P7.1: contradicting tones by the definition, by trying all sets.
func TestContradictingTonesByDefinition(t *testing.T) {
	r := rand.New(rand.NewSource(4))
	sizes := map[int]int{}
	for range 400 {
		l := randomTones(r, r.Intn(9), between(r, 1, 30))
		x := limit(r.Intn(1000), 0)
		x.Hi = x.Lo + r.Intn(60)
		before := slices.Clone(l)
		want, found := minimumByDefinition(l, func(some []api.RangingTone) bool { return len(candidatesByDefinition(some, x)) == 0 })
		got, e := ranging.ContradictingTones(l, x)
		if found {
			wantSlice(t, l, got, e, want)
		} else {
			wantNoSlice(t, l, got, e, api.ErrNone)
		}
		sizes[len(want)]++
		wantSame(t, l, before)
	}
	for size := range 4 {
		if sizes[size] < 10 {
			t.Error(sizes)
		}
	}
}
