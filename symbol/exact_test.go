package symbol_test

import (
	"math"
	"math/rand"
	"slices"
	"strings"
	"testing"

	"cassegrain/api"
)

// The tests compare the package with the definitions of the chapter, which this file computes slowly, in whole numbers.

// wantError reports an error that differs from the wanted one.
func wantError(t *testing.T, what any, got, want api.Errno) {
	t.Helper()
	if got != want {
		t.Errorf("%v: error %d, want %d", what, got, want)
	}
}

// wantSame reports a slice that differs from the wanted one; a nil slice is an empty one.
func wantSame[T comparable](t *testing.T, what any, got, want []T) {
	t.Helper()
	if !slices.Equal(got, want) {
		t.Errorf("%v: %v, want %v", what, got, want)
	}
}

// wantSlice reports a slice or an error that differs from the wanted one.
func wantSlice[T comparable](t *testing.T, what any, got []T, e api.Errno, want []T) {
	t.Helper()
	wantError(t, what, e, api.OK)
	wantSame(t, what, got, want)
}

// wantNothing reports an error that differs from the wanted one, and any result beside it.
func wantNothing[T comparable](t *testing.T, what any, got []T, e, want api.Errno) {
	t.Helper()
	wantError(t, what, e, want)
	wantSame(t, what, got, nil)
}

// wantFrames reports frames that differ from the wanted ones.
func wantFrames(t *testing.T, what any, got, want []api.SymbolFrame) {
	t.Helper()
	same := func(a, b api.SymbolFrame) bool {
		return a.At == b.At && a.Inverted == b.Inverted && a.Moved == b.Moved && slices.Equal(a.Soft, b.Soft)
	}
	if !slices.EqualFunc(got, want, same) {
		t.Errorf("%v: %v, want %v", what, got, want)
	}
}

func gauss(re, im int) api.Gauss {
	return api.Gauss{Re: re, Im: im}
}

// reals returns samples whose imaginary parts are 0.
func reals(parts ...int) []api.Gauss {
	x := make([]api.Gauss, len(parts))
	for i, re := range parts {
		x[i].Re = re
	}
	return x
}

// turned returns samples turned by quarter turns.
func turned(x []api.Gauss, quarters int) []api.Gauss {
	x = slices.Clone(x)
	for range quarters {
		for i, g := range x {
			x[i] = gauss(-g.Im, g.Re)
		}
	}
	return x
}

// opposite returns soft symbols with the opposite sign.
func opposite(soft []int) []int {
	l := make([]int, len(soft))
	for i, n := range soft {
		l[i] = -n
	}
	return l
}

// bits returns the bits of a string of them, in which other characters have no meaning.
func bits(s string) []int {
	var l []int
	for _, c := range s {
		if strings.ContainsRune("01", c) {
			l = append(l, int(c-'0'))
		}
	}
	return l
}

// clearly returns the soft symbols 7 and -7 of a string of bits.
func clearly(s string) []int {
	l := bits(s)
	for i, bit := range l {
		l[i] = 7 - 14*bit
	}
	return l
}

func norm(g api.Gauss) int {
	return g.Re*g.Re + g.Im*g.Im
}

// total returns the sum of the samples from one to another, or false if one of them does not exist.
func total(x []api.Gauss, from, to int) (api.Gauss, bool) {
	var sum api.Gauss
	for i := from; i <= to; i++ {
		if i >= len(x) {
			return sum, false
		}
		sum = gauss(sum.Re+x[i].Re, sum.Im+x[i].Im)
	}
	return sum, true
}

func sumsByDefinition(x []api.Gauss, length, offset int) []api.Gauss {
	var sums []api.Gauss
	for {
		from := offset + len(sums)*length
		sum, ok := total(x, from, from+length-1)
		if !ok {
			return sums
		}
		sums = append(sums, sum)
	}
}

func energiesByDefinition(x []api.Gauss, length int) []int {
	n := len(sumsByDefinition(x, length, length-1))
	energies := make([]int, length)
	for offset := range energies {
		for _, sum := range sumsByDefinition(x, length, offset)[:n] {
			energies[offset] += norm(sum)
		}
	}
	return energies
}

func startsByDefinition(t api.SymbolTiming, x []api.Gauss) []int {
	var starts []int
	p := 0
	for p+t.Length <= len(x) {
		starts = append(starts, p)
		early, _ := total(x, p, p+t.Length/2-1)
		late, _ := total(x, p+t.Length/2, p+t.Length-1)
		if norm(late)-norm(early) > t.Threshold {
			p += t.Length + 1
		} else if norm(early)-norm(late) > t.Threshold {
			p += t.Length - 1
		} else {
			p += t.Length
		}
	}
	return starts
}

// softByDefinition returns the number n with the greatest size for which n f is between 0 and 7 x, within the limits.
func softByDefinition(x, f int) int {
	if x < 0 {
		return -softByDefinition(-x, f)
	}
	n := 0
	for n < 7 && (n+1)*f <= 7*x {
		n++
	}
	return n
}

func hardByDefinition(soft int) int {
	if soft > 0 {
		return 0
	}
	if soft < 0 {
		return 1
	}
	return -1
}

func quadrantByDefinition(z api.Gauss) int {
	switch {
	case z.Re > 0 && z.Im >= 0:
		return 0
	case z.Im > 0 && z.Re <= 0:
		return 1
	case z.Re < 0 && z.Im <= 0:
		return 2
	}
	return 3
}

// registersByDefinition returns the contents of the register, each a slice of bits with the lowest one first, from the first one on.
func registersByDefinition(r api.SymbolRandomizer, count int) [][]int {
	bitsOf := func(n int) []int {
		var l []int
		for range r.Degree {
			l = append(l, n%2)
			n /= 2
		}
		return l
	}
	var registers [][]int
	register, taps := bitsOf(r.Seed), bitsOf(r.Taps)
	for range count {
		registers = append(registers, register)
		sum := 0
		for i, bit := range register {
			sum += bit * taps[i]
		}
		register = append(slices.Clone(register[1:]), sum%2)
	}
	return registers
}

func sequenceByDefinition(r api.SymbolRandomizer, count int) []int {
	var l []int
	for _, register := range registersByDefinition(r, count) {
		l = append(l, register[0])
	}
	return l
}

func periodByDefinition(r api.SymbolRandomizer) int {
	registers := registersByDefinition(r, 1000)
	for n := 1; ; n++ {
		if slices.Equal(registers[n], registers[0]) {
			return n
		}
	}
}

func mismatchesByDefinition(marker []int) []int {
	var counts []int
	for s := 1; s <= len(marker)-1; s++ {
		n := 0
		for i := range marker {
			if i >= s && marker[i] != marker[i-s] {
				n++
			}
		}
		counts = append(counts, n)
	}
	return counts
}

func spacingByDefinition(marker []int, errors int) [2]int {
	spacing := [2]int{len(marker), len(marker)}
	counts := mismatchesByDefinition(marker)
	for s := len(marker) - 1; s >= 1; s-- {
		if counts[s-1] <= 2*errors {
			spacing[0] = s
		}
		if len(marker)-s-counts[s-1] <= 2*errors {
			spacing[1] = s
		}
	}
	return spacing
}

func wrongByDefinition(marker, soft []int, at int) [2]int {
	var counts [2]int
	for i, bit := range marker {
		value := hardByDefinition(soft[at+i])
		if value == -1 || value != bit {
			counts[0]++
		}
		if value == -1 || value == bit {
			counts[1]++
		}
	}
	return counts
}

// markByDefinition returns a mark with the number of wrong symbols at its position.
func markByDefinition(r api.SymbolRules, soft []int, kind, at int, inverted bool, moved int) api.SymbolMark {
	side := 0
	if inverted {
		side = 1
	}
	return api.SymbolMark{Kind: kind, At: at, Inverted: inverted, Wrong: wrongByDefinition(r.Marker, soft, at)[side], Moved: moved}
}

func foundByDefinition(r api.SymbolRules, soft []int) []api.SymbolMark {
	var marks []api.SymbolMark
	for at := 0; at <= len(soft)-len(r.Marker); at++ {
		counts := wrongByDefinition(r.Marker, soft, at)
		if counts[0] <= r.Errors {
			marks = append(marks, markByDefinition(r, soft, api.SymbolFound, at, false, 0))
		} else if counts[1] <= r.Errors {
			marks = append(marks, markByDefinition(r, soft, api.SymbolFound, at, true, 0))
		}
	}
	return marks
}

// expectedByDefinition returns the mark of a marker that is expected at a position, or nil.
func expectedByDefinition(r api.SymbolRules, soft []int, kind, x int, inverted bool) *api.SymbolMark {
	for _, d := range []int{0, -1, 1, -2, 2, -3, 3}[:1+2*r.Slip] {
		mark := markByDefinition(r, soft, kind, x+d, inverted, d)
		if mark.Wrong <= r.Errors {
			return &mark
		}
	}
	return nil
}

// marksByDefinition runs the machine, phase by phase. After a search it has missed nothing.
func marksByDefinition(r api.SymbolRules, soft []int) []api.SymbolMark {
	var marks []api.SymbolMark
	phase, search, count, misses, last, inverted := "Search", 0, 0, 0, 0, false
	for {
		if phase == "Search" {
			all := foundByDefinition(r, soft)
			i := slices.IndexFunc(all, func(mark api.SymbolMark) bool { return mark.At >= search })
			if i < 0 {
				return marks
			}
			marks = append(marks, all[i])
			phase, count, misses, last, inverted = "Check", 1, 0, all[i].At, all[i].Inverted
			if r.Verify == 1 {
				phase = "Lock"
			}
			continue
		}
		x := last + r.Length
		if x+r.Slip+len(r.Marker) > len(soft) {
			return marks
		}
		kind := map[string]int{"Check": api.SymbolChecked, "Lock": api.SymbolLocked}[phase]
		if mark := expectedByDefinition(r, soft, kind, x, inverted); mark != nil {
			marks = append(marks, *mark)
			misses, last = 0, mark.At
			if phase == "Check" {
				count++
				if count == r.Verify {
					phase = "Lock"
				}
			}
			continue
		}
		if phase == "Check" {
			marks = append(marks, markByDefinition(r, soft, api.SymbolLost, x, inverted, 0))
			phase, search = "Search", last+1
			continue
		}
		misses++
		if misses > r.Fly {
			marks = append(marks, markByDefinition(r, soft, api.SymbolLost, x, inverted, 0))
			phase, search = "Search", x
		} else {
			marks = append(marks, markByDefinition(r, soft, api.SymbolMissed, x, inverted, 0))
			last = x
		}
	}
}

func framesByDefinition(r api.SymbolRules, soft []int) []api.SymbolFrame {
	var frames []api.SymbolFrame
	marks := marksByDefinition(r, soft)
	for i := 0; i+1 < len(marks); i++ {
		if marks[i+1].Kind == api.SymbolFound || marks[i+1].Kind == api.SymbolLost {
			continue
		}
		symbols := slices.Clone(soft[marks[i].At+len(r.Marker) : marks[i+1].At])
		if marks[i].Inverted {
			symbols = opposite(symbols)
		}
		frames = append(frames, api.SymbolFrame{At: marks[i].At, Inverted: marks[i].Inverted, Moved: marks[i+1].Moved, Soft: symbols})
	}
	return frames
}

// between returns a random number from lo to hi.
func between(r *rand.Rand, lo, hi int) int {
	return lo + r.Intn(hi-lo+1)
}

// numbers returns random numbers from lo to hi.
func numbers(r *rand.Rand, count, lo, hi int) []int {
	l := make([]int, count)
	for i := range l {
		l[i] = between(r, lo, hi)
	}
	return l
}

func randomSamples(r *rand.Rand, count, limit int) []api.Gauss {
	x := make([]api.Gauss, count)
	for i := range x {
		x[i] = gauss(between(r, -limit, limit), between(r, -limit, limit))
	}
	return x
}

func randomRandomizer(r *rand.Rand) api.SymbolRandomizer {
	degree := between(r, 1, 8)
	most := 1<<degree - 1
	return api.SymbolRandomizer{Degree: degree, Taps: between(r, 1, most) | 1, Seed: between(r, 1, most)}
}

// randomRules returns rules whose markers are often found, missed and displaced in a stream of randomStream.
func randomRules(r *rand.Rand) api.SymbolRules {
	rules := api.SymbolRules{
		Marker: numbers(r, between(r, 1, 8), 0, 1),
		Verify: between(r, 1, 5),
		Fly:    between(r, 0, 3),
		Slip:   between(r, 0, 3),
	}
	rules.Errors = between(r, 0, (len(rules.Marker)-1)/2)
	rules.Length = len(rules.Marker) + rules.Slip + between(r, 1, 12)
	return rules
}

// randomStream returns soft symbols with frames, of which some have a wrong length, a wrong marker, or an inversion.
func randomStream(r *rand.Rand, rules api.SymbolRules) []int {
	soft := numbers(r, r.Intn(10), -7, 7)
	sign, trouble := 1, between(r, 2, 20)
	for range between(r, 0, 12) {
		if r.Intn(trouble) == 0 {
			sign = -sign
		}
		for _, bit := range rules.Marker {
			n := between(r, 1, 7) * sign * (1 - 2*bit)
			if r.Intn(3*trouble) == 0 {
				n = -n * r.Intn(2)
			}
			soft = append(soft, n)
		}
		length := rules.Length - len(rules.Marker)
		if r.Intn(trouble) < 2 {
			length += between(r, -rules.Slip, rules.Slip)
		}
		soft = append(soft, numbers(r, length, -7, 7)...)
	}
	return soft
}

// badNumbers returns numbers that are not from lo to hi.
func badNumbers(lo, hi int) []int {
	return []int{lo - 1, hi + 1, math.MinInt, math.MaxInt}
}

// A wrong argument, and its error.
type wrong[T any] struct {
	value T
	want  api.Errno
}

// badSamples returns samples that are not valid.
func badSamples() []wrong[[]api.Gauss] {
	last := make([]api.Gauss, 400)
	last[399] = gauss(0, 2001)
	l := []wrong[[]api.Gauss]{
		{make([]api.Gauss, 401), api.ErrLarge},
		{append(slices.Clone(last), gauss(0, 0)), api.ErrLarge}, // before the range
		{last, api.ErrRange},
	}
	for _, n := range badNumbers(-2000, 2000) {
		l = append(l, wrong[[]api.Gauss]{[]api.Gauss{gauss(n, 0)}, api.ErrRange}, wrong[[]api.Gauss]{[]api.Gauss{gauss(1, 1), gauss(0, n)}, api.ErrRange})
	}
	return l
}

// badSlices returns slices of at most a number of numbers from lo to hi that are not valid.
func badSlices(limit, lo, hi int) []wrong[[]int] {
	zeros := make([]int, limit-1)
	l := []wrong[[]int]{
		{make([]int, limit+1), api.ErrLarge},
		{append(slices.Clone(zeros), hi+1, 0), api.ErrLarge}, // before the range
		{append(slices.Clone(zeros), hi+1), api.ErrRange},
	}
	for _, n := range badNumbers(lo, hi) {
		l = append(l, wrong[[]int]{[]int{n}, api.ErrRange}, wrong[[]int]{[]int{hi, n, lo}, api.ErrRange})
	}
	return l
}

// badSoft returns soft symbols that are not valid.
func badSoft() []wrong[[]int] {
	return badSlices(600, -7, 7)
}

// badQuadrants returns quadrants that are not valid.
func badQuadrants() []wrong[[]int] {
	return badSlices(600, 0, 3)
}

// badMarkers returns markers that are not valid.
func badMarkers() []wrong[[]int] {
	return append(badSlices(32, 0, 1), wrong[[]int]{nil, api.ErrShape}, wrong[[]int]{[]int{}, api.ErrShape})
}

// goodRandomizer is the randomizer of the chapter's example 5.
func goodRandomizer() api.SymbolRandomizer {
	return api.SymbolRandomizer{Degree: 3, Taps: 3, Seed: 1}
}

// badRandomizers returns randomizers that are not valid.
func badRandomizers() []wrong[api.SymbolRandomizer] {
	var l []wrong[api.SymbolRandomizer]
	add := func(degree, taps, seed int, want api.Errno) {
		l = append(l, wrong[api.SymbolRandomizer]{api.SymbolRandomizer{Degree: degree, Taps: taps, Seed: seed}, want})
	}
	for _, n := range append(badNumbers(1, 8), 63, 64, -64) {
		add(n, 1, 1, api.ErrRange)
		add(n, 2, 1, api.ErrRange) // before the form
	}
	for degree := 1; degree <= 8; degree++ {
		for _, n := range badNumbers(1, 1<<degree-1) {
			add(degree, n, 1, api.ErrRange)
			add(degree, n|1, 0, api.ErrRange)
			add(degree, 1, n, api.ErrRange)
			add(degree, 2, n, api.ErrRange) // before the form
		}
	}
	add(2, 2, 1, api.ErrForm)
	add(3, 6, 1, api.ErrForm)
	add(8, 254, 255, api.ErrForm)
	return l
}

// goodRules are the rules of the chapter's example 8.
func goodRules() api.SymbolRules {
	return api.SymbolRules{Marker: bits("0011"), Length: 8, Verify: 2, Fly: 1, Slip: 1}
}

// badRules returns rules that are not valid.
func badRules() []wrong[api.SymbolRules] {
	var l []wrong[api.SymbolRules]
	add := func(want api.Errno, change func(*api.SymbolRules)) {
		r := goodRules()
		change(&r)
		l = append(l, wrong[api.SymbolRules]{r, want})
	}
	for _, m := range badMarkers() {
		add(m.want, func(r *api.SymbolRules) { r.Marker = m.value })
		add(m.want, func(r *api.SymbolRules) { r.Marker, r.Length, r.Verify = m.value, 0, 0 }) // before the numbers
	}
	for _, n := range badNumbers(1, 200) {
		add(api.ErrRange, func(r *api.SymbolRules) { r.Length = n })
		add(api.ErrRange, func(r *api.SymbolRules) { r.Length, r.Errors = n, 2 }) // before the break
	}
	for _, n := range badNumbers(0, 32) {
		add(api.ErrRange, func(r *api.SymbolRules) { r.Errors = n })
	}
	for _, n := range badNumbers(1, 5) {
		add(api.ErrRange, func(r *api.SymbolRules) { r.Verify = n })
		add(api.ErrRange, func(r *api.SymbolRules) { r.Verify, r.Errors = n, 2 })
	}
	for _, n := range badNumbers(0, 5) {
		add(api.ErrRange, func(r *api.SymbolRules) { r.Fly = n })
		add(api.ErrRange, func(r *api.SymbolRules) { r.Fly, r.Errors = n, 2 })
	}
	for _, n := range badNumbers(0, 3) {
		add(api.ErrRange, func(r *api.SymbolRules) { r.Slip = n })
		add(api.ErrRange, func(r *api.SymbolRules) { r.Slip, r.Errors = n, 2 })
		add(api.ErrRange, func(r *api.SymbolRules) { r.Slip, r.Length = n, 1 })
	}
	add(api.ErrBreak, func(r *api.SymbolRules) { r.Errors = 2 })
	add(api.ErrBreak, func(r *api.SymbolRules) { r.Errors = 32 })
	add(api.ErrBreak, func(r *api.SymbolRules) { r.Errors, r.Length = 2, 5 }) // before the shape
	add(api.ErrBreak, func(r *api.SymbolRules) { r.Marker, r.Errors = []int{1}, 1 })
	add(api.ErrBreak, func(r *api.SymbolRules) { r.Marker, r.Errors = bits("10101"), 3 })
	add(api.ErrShape, func(r *api.SymbolRules) { r.Length = 5 })
	add(api.ErrShape, func(r *api.SymbolRules) { r.Length = 1 })
	add(api.ErrBreak, func(r *api.SymbolRules) { r.Length, r.Errors = 1, 2 })
	add(api.ErrShape, func(r *api.SymbolRules) { r.Length, r.Slip = 7, 3 })
	add(api.ErrShape, func(r *api.SymbolRules) { r.Length, r.Slip = 4, 0 })
	add(api.ErrShape, func(r *api.SymbolRules) { r.Marker, r.Length = make([]int, 32), 33 })
	return l
}
