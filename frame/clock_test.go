package frame_test

import (
	"math"
	"math/big"
	"math/rand"
	"slices"
	"testing"

	"cassegrain/api"
	"cassegrain/frame"
)

// pairsOf returns pairs of counts and both ends of times.
func pairsOf(numbers ...[3]int) []api.FramePair {
	var l []api.FramePair
	for _, n := range numbers {
		l = append(l, newPair(n[0], n[1], n[2]))
	}
	return l
}

// exampleClock returns the pairs of example 7.
func exampleClock() []api.FramePair {
	return pairsOf([3]int{0, 10, 12}, [3]int{10, 30, 32}, [3]int{20, 50, 51})
}

// clashingClock returns the pairs of example 8.
func clashingClock() []api.FramePair {
	return pairsOf([3]int{0, 10, 12}, [3]int{10, 30, 32}, [3]int{20, 60, 61})
}

// goodClock returns so many pairs with a line.
func goodClock(count int) []api.FramePair {
	var l []api.FramePair
	for i := range count {
		l = append(l, newPair(i, 5*i, 5*i+2))
	}
	return l
}

// badClock is pairs that are not valid, the index of the wrong one, and the error.
type badClock struct {
	pairs []api.FramePair
	index int
	want  api.Errno
}

// badClocks returns pairs that are not valid, some of them for several reasons.
func badClocks() []badClock {
	l := []badClock{
		{nil, 0, api.ErrShape},
		{[]api.FramePair{}, 0, api.ErrShape},
		{goodClock(21), 0, api.ErrLarge},
		{repeated(newPair(-1, 5, 4), 21), 0, api.ErrLarge},
		{goodClock(1000), 0, api.ErrLarge},
	}
	for i := range 3 {
		add := func(e api.Errno, p api.FramePair) {
			l = append(l, badClock{with(exampleClock(), i, p), i, e})
			l = append(l, badClock{append(with(exampleClock(), i, p), newPair(-1, 0, 0)), i, e})
		}
		good := exampleClock()[i]
		for _, n := range badNumbers(0, api.MaxFrameCount) {
			add(api.ErrRange, newPair(n, 10, 12))
			add(api.ErrRange, newPair(n, 12, 10))
		}
		for _, n := range badNumbers(0, api.MaxTick) {
			add(api.ErrRange, newPair(good.Count, n, 12))
			add(api.ErrRange, newPair(good.Count, 10, n))
			add(api.ErrRange, newPair(0, 10, n)) // before the order of counts
		}
		add(api.ErrOrder, newPair(good.Count, 12, 11))
		add(api.ErrOrder, newPair(good.Count, api.MaxTick, 0))
		if i > 0 {
			add(api.ErrOrder, newPair(exampleClock()[i-1].Count, 40, 41))
			add(api.ErrOrder, newPair(exampleClock()[i-1].Count-1+i%2, 41, 40))
		}
	}
	return l
}

// P6.5: pairs within the limits, and the errors of others with the index of the pair.
func TestCheckPairs(t *testing.T) {
	for _, l := range [][]api.FramePair{
		exampleClock(), clashingClock(), goodClock(1), goodClock(20),
		pairsOf([3]int{0, 0, 0}), pairsOf([3]int{1000000, 1e12, 1e12}), pairsOf([3]int{0, 0, 1e12}, [3]int{1, 1e12, 1e12}, [3]int{1000000, 0, 0}),
	} {
		before := slices.Clone(l)
		n, e := frame.CheckPairs(l)
		wantNumber(t, l, n, e, 0)
		wantSame(t, "the pairs", l, before)
	}
	for _, c := range badClocks() {
		n, e := frame.CheckPairs(c.pairs)
		wantError(t, c, e, c.want)
		if n != c.index {
			t.Errorf("%v: the index %d", c, n)
		}
	}
}

// noRates reports an error of RatesOf that differs from the wanted one, or rates beside it.
func noRates(t *testing.T, l []api.FramePair, want api.Errno) {
	t.Helper()
	rates, e := frame.RatesOf(l)
	wantError(t, l, e, want)
	if rates != ([2]api.Frac{}) {
		t.Errorf("%v: %v beside an error", l, rates)
	}
}

// noTimes reports an error of TimeAt that differs from the wanted one, or times beside it.
func noTimes(t *testing.T, l []api.FramePair, count int, want api.Errno) {
	t.Helper()
	times, e := frame.TimeAt(l, count)
	wantError(t, l, e, want)
	if times != (api.Range{}) {
		t.Errorf("%v: %v beside an error", l, times)
	}
}

// wantTimes reports times at a count that differ from the wanted ones.
func wantTimes(t *testing.T, l []api.FramePair, count int, want api.Range) {
	t.Helper()
	times, e := frame.TimeAt(l, count)
	wantError(t, l, e, api.OK)
	if times != want {
		t.Errorf("%v at %d: %v, want %v", l, count, times, want)
	}
}

// wantRates reports rates that differ from the wanted ones.
func wantRates(t *testing.T, l []api.FramePair, want [2]api.Frac) {
	t.Helper()
	rates, e := frame.RatesOf(l)
	wantError(t, l, e, api.OK)
	if rates != want {
		t.Errorf("%v: %v, want %v", l, rates, want)
	}
}

// fractions returns two fractions.
func fractions(a, b, c, d int) [2]api.Frac {
	return [2]api.Frac{{Num: a, Den: b}, {Num: c, Den: d}}
}

// P6.5: example 7, and other rates in lowest terms.
func TestRatesExamples(t *testing.T) {
	wantRates(t, exampleClock(), fractions(19, 10, 41, 20))
	wantRates(t, exampleClock()[:2], fractions(9, 5, 11, 5))
	wantRates(t, exampleClock()[1:], fractions(9, 5, 21, 10))
	wantRates(t, pairsOf([3]int{3, 7, 7}, [3]int{5, 7, 7}), fractions(0, 1, 0, 1))
	wantRates(t, pairsOf([3]int{0, 100, 100}, [3]int{40, 90, 90}), fractions(-1, 4, -1, 4)) // backwards
	wantRates(t, pairsOf([3]int{0, 0, 6}, [3]int{4, 0, 6}), fractions(-3, 2, 3, 2))
	wantRates(t, pairsOf([3]int{0, 0, 0}, [3]int{1, 0, 10}, [3]int{2, 4, 4}), fractions(2, 1, 2, 1)) // a single line
	wantRates(t, pairsOf([3]int{0, 1e9, 1e9}, [3]int{1, 0, 2e9}), fractions(-1e9, 1, 1e9, 1))
	wantRates(t, pairsOf([3]int{0, 0, 0}, [3]int{1000, 1e12, 1e12}), fractions(1e9, 1, 1e9, 1)) // small enough in lowest terms
	wantRates(t, pairsOf([3]int{0, 1e12, 1e12}, [3]int{1000000, 0, 0}), fractions(-1000000, 1, -1000000, 1))
}

// P6.5: the errors of RatesOf, in their order.
func TestRatesErrors(t *testing.T) {
	for _, c := range badClocks() {
		noRates(t, c.pairs, c.want)
	}
	noRates(t, exampleClock()[:1], api.ErrShape)
	noRates(t, clashingClock(), api.ErrClash)
	noRates(t, pairsOf([3]int{0, 0, 0}, [3]int{1, 1e12, 1e12}, [3]int{2, 0, 0}), api.ErrClash) // before its numerators
	noRates(t, pairsOf([3]int{0, 0, 0}, [3]int{1, 1e9 + 1, 1e9 + 1}), api.ErrLarge)
	noRates(t, pairsOf([3]int{0, 1e9 + 1, 1e9 + 1}, [3]int{1, 0, 0}), api.ErrLarge)
	noRates(t, pairsOf([3]int{0, 1e9, 1e9 + 1}, [3]int{1, 0, 0}), api.ErrLarge) // the minimum alone
	noRates(t, pairsOf([3]int{0, 0, 0}, [3]int{1, 1e9, 1e9 + 1}), api.ErrLarge) // the maximum alone
	noRates(t, pairsOf([3]int{0, 0, 0}, [3]int{7, 1e12, 1e12}), api.ErrLarge)   // about 1.4 10^11, but in sevenths
	noRates(t, pairsOf([3]int{0, 0, 0}, [3]int{999983, 1e12, 1e12}), api.ErrLarge)
}

// P6.5: example 7, and other times, also below 0 and above MaxTick.
func TestTimeAtExamples(t *testing.T) {
	wantTimes(t, exampleClock(), 30, api.Range{Lo: 69, Hi: 72})
	wantTimes(t, exampleClock(), 0, api.Range{Lo: 10, Hi: 12})
	wantTimes(t, exampleClock(), 20, api.Range{Lo: 50, Hi: 51})
	wantTimes(t, exampleClock()[1:], 0, api.Range{Lo: 9, Hi: 14})
	wantTimes(t, pairsOf([3]int{0, 0, 0}, [3]int{3, 1, 1}), 1, api.Range{Lo: 0, Hi: 1})
	wantTimes(t, pairsOf([3]int{0, 0, 0}, [3]int{3, 1, 1}), 6, api.Range{Lo: 2, Hi: 2})
	wantTimes(t, pairsOf([3]int{5, 0, 1}, [3]int{6, 10, 12}), 4, api.Range{Lo: -12, Hi: -8})
	wantTimes(t, pairsOf([3]int{5, 0, 0}, [3]int{8, 1, 1}), 1, api.Range{Lo: -2, Hi: -1})
	wantTimes(t, pairsOf([3]int{0, 0, 0}, [3]int{1, 1e12, 1e12}), 1000000, api.Range{Lo: 1e18, Hi: 1e18})
	wantTimes(t, pairsOf([3]int{0, 0, 1e12}, [3]int{1, 0, 1e12}), 1000000, api.Range{Lo: -1e18 + 1e12, Hi: 1e18})
	wantTimes(t, pairsOf([3]int{999999, 0, 1e12}, [3]int{1000000, 0, 1e12}), 0, api.Range{Lo: -1e18 + 1e12, Hi: 1e18})
	wantTimes(t, pairsOf([3]int{0, 0, 2}, [3]int{10, 0, 2}), 5, api.Range{Lo: 0, Hi: 2})
}

// P6.5: the errors of TimeAt, in their order.
func TestTimeAtErrors(t *testing.T) {
	for _, c := range badClocks() {
		noTimes(t, c.pairs, 5, c.want)
		noTimes(t, c.pairs, -1, c.want)
	}
	for _, n := range append(badNumbers(0, 1000000), 7) {
		noTimes(t, exampleClock()[:1], n, api.ErrShape)
		noTimes(t, clashingClock(), n, api.ErrClash)
	}
	for _, n := range badNumbers(0, 1000000) {
		noTimes(t, exampleClock(), n, api.ErrRange)
	}
}

// wantPieces reports pieces that differ from the wanted ones.
func wantPieces(t *testing.T, l []api.FramePair, want ...api.Range) {
	t.Helper()
	got, e := frame.PiecesOf(l)
	wantSlice(t, l, got, e, want)
}

// P6.5: example 8, and other pieces; through two pairs there always is a line.
func TestPiecesExamples(t *testing.T) {
	wantPieces(t, exampleClock(), api.Range{Lo: 0, Hi: 2})
	wantPieces(t, clashingClock(), api.Range{Lo: 0, Hi: 1}, api.Range{Lo: 2, Hi: 2})
	wantPieces(t, goodClock(1), api.Range{})
	wantPieces(t, goodClock(20), api.Range{Lo: 0, Hi: 19})
	wantPieces(t, pairsOf([3]int{0, 1e12, 1e12}, [3]int{1, 0, 0}), api.Range{Lo: 0, Hi: 1})
	wantPieces(t, append(clashingClock(), newPair(30, 90, 90)), api.Range{Lo: 0, Hi: 1}, api.Range{Lo: 2, Hi: 3})
	wantPieces(t, append(clashingClock(), newPair(30, 90, 90), newPair(40, 121, 122)), api.Range{Lo: 0, Hi: 1}, api.Range{Lo: 2, Hi: 3}, api.Range{Lo: 4, Hi: 4})
	for _, c := range badClocks() {
		got, e := frame.PiecesOf(c.pairs)
		wantNothing(t, c, len(got), e, c.want)
	}
}

// limits are those of the pairs of a random clock.
type limits struct{ count, time, width int }

// randomClock returns pairs with counts and times within limits, near a few lines.
func randomClock(r *rand.Rand, x limits, size int) []api.FramePair {
	var counts []int
	for len(counts) < size {
		counts = append(counts, r.Intn(x.count+1))
		slices.Sort(counts)
		counts = slices.Compact(counts)
	}
	var l []api.FramePair
	rise := between(r, -x.time, x.time)
	for _, count := range counts {
		middle := min(max(x.time/2+rise*count/(2*x.count)+between(r, -x.width, x.width)/2, 0), x.time)
		l = append(l, newPair(count, max(0, middle-r.Intn(x.width+1)), min(x.time, middle+r.Intn(x.width+1))))
	}
	return l
}

// wantClock compares what the package says of pairs with the definitions, and returns whether there is a line.
func wantClock(t *testing.T, r *rand.Rand, l []api.FramePair) bool {
	t.Helper()
	lo, hi, line := ratesByDefinition(l)
	if !line {
		noRates(t, l, api.ErrClash)
		noTimes(t, l, l[0].Count, api.ErrClash)
		return false
	}
	want := fractionOfRats(lo, hi)
	if max(want[0].Num, -want[0].Num, want[1].Num, -want[1].Num) <= 1e9 {
		wantRates(t, l, want)
	} else {
		noRates(t, l, api.ErrLarge)
	}
	for _, count := range []int{0, api.MaxFrameCount, l[0].Count, l[len(l)-1].Count, r.Intn(api.MaxFrameCount), between(r, l[0].Count, l[len(l)-1].Count)} {
		wantTimes(t, l, count, timesByDefinition(l, count))
	}
	return true
}

// fractionOfRats returns two fractions.
func fractionOfRats(a, b *big.Rat) [2]api.Frac {
	return fractions(int(a.Num().Int64()), int(a.Denom().Int64()), int(b.Num().Int64()), int(b.Denom().Int64()))
}

// P6.5: rates and times by the definition, computed with exact fractions.
func TestClockByDefinition(t *testing.T) {
	r := rand.New(rand.NewSource(11))
	lines, clashes := 0, 0
	for _, x := range []limits{{30, 20, 3}, {20, 60, 20}, {1000000, 1e12, 1e11}, {1000000, 1e12, 1e12}, {1000000, 1e12, 5}, {40, 1e12, 1e11}, {1000000, 100, 40}} {
		for range 60 {
			l := randomClock(r, x, between(r, 2, between(r, 2, 20)))
			before := slices.Clone(l)
			if wantClock(t, r, l) {
				lines++
			} else {
				clashes++
			}
			wantSame(t, "the pairs", l, before)
		}
	}
	if lines < 100 || clashes < 100 {
		t.Error(lines, clashes)
	}
}

// P6.5: pieces by the definition: each has a line, and is as long as possible. P6.11: they are as few as possible.
func TestPiecesByDefinition(t *testing.T) {
	r := rand.New(rand.NewSource(12))
	for range 300 {
		l := randomClock(r, []limits{{30, 20, 3}, {60, 60, 5}, {1000000, 1e12, 1e11}}[r.Intn(3)], between(r, 1, 20))
		before := slices.Clone(l)
		pieces, e := frame.PiecesOf(l)
		wantError(t, l, e, api.OK)
		next := 0
		for _, p := range pieces {
			if _, _, line := ratesByDefinition(l[p.Lo : p.Hi+1]); p.Lo != next || p.Hi < p.Lo || !line {
				t.Fatal(l, pieces)
			}
			next = p.Hi + 1
			if next < len(l) {
				if _, _, line := ratesByDefinition(l[p.Lo : next+1]); line {
					t.Fatal(l, pieces)
				}
			}
		}
		if next != len(l) || len(pieces) != fewestPieces(l) {
			t.Fatal(l, pieces)
		}
		wantSame(t, "the pairs", l, before)
	}
}

// floorOf returns a fraction rounded down.
func floorOf(x *big.Rat) int {
	return -roundedUp(new(big.Rat).Neg(x))
}

// lineAt returns the time of a line at a count.
func lineAt(start, rate *big.Rat, count int) *big.Rat {
	n := new(big.Rat).Mul(rate, fraction(count, 1))
	return n.Add(n, start)
}

// P6.11: if the time is a line, it is enclosed: there is one piece, RatesOf contains its rate, and TimeAt its times.
func TestEnclosed(t *testing.T) {
	r := rand.New(rand.NewSource(13))
	for range 300 {
		start, rate := fraction(between(r, 0, 1e6), between(r, 1, 50)), fraction(between(r, 0, 1000), between(r, 1, 50))
		var l []api.FramePair
		for range between(r, 2, 20) {
			count := between(r, 0, 400)
			time := lineAt(start, rate, count)
			l = append(l, newPair(count, max(0, floorOf(time)-r.Intn(6)), roundedUp(time)+r.Intn(6)))
		}
		slices.SortFunc(l, func(a, b api.FramePair) int { return a.Count - b.Count })
		l = slices.CompactFunc(l, func(a, b api.FramePair) bool { return a.Count == b.Count })
		wantPieces(t, l, api.Range{Lo: 0, Hi: len(l) - 1})
		if len(l) == 1 {
			continue
		}
		rates, e := frame.RatesOf(l)
		wantError(t, l, e, api.OK)
		if fraction(rates[0].Num, rates[0].Den).Cmp(rate) > 0 || fraction(rates[1].Num, rates[1].Den).Cmp(rate) < 0 {
			t.Error(l, rates, rate)
		}
		for _, count := range []int{0, 1, 200, 400, 1000000, r.Intn(1000000)} {
			times, e := frame.TimeAt(l, count)
			wantError(t, l, e, api.OK)
			if time := lineAt(start, rate, count); times.Lo > floorOf(time) || times.Hi < roundedUp(time) {
				t.Error(l, count, times, time)
			}
		}
	}
}

// P6.5: numbers as large as an int are errors, too.
func TestClockOfHugeNumbers(t *testing.T) {
	huge := pairsOf([3]int{math.MinInt, math.MinInt, math.MaxInt}, [3]int{math.MaxInt, math.MaxInt, math.MinInt})
	noRates(t, huge, api.ErrRange)
	noTimes(t, huge, math.MaxInt, api.ErrRange)
	n, e := frame.CheckPairs(huge)
	wantNothing(t, huge, n, e, api.ErrRange)
}
