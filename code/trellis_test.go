package code_test

import (
	"math"
	"math/rand"
	"slices"
	"testing"

	"cassegrain/api"
	"cassegrain/code"
)

// P5.1: example 3, and the edge cases.
func TestBestBits(t *testing.T) {
	for _, c := range []struct {
		code   api.CodeConvolution
		soft   []int
		bits   []int
		metric int
	}{
		{goodCode(), []int{-1, -1, 1, 1, -1, -1, 1, 1}, []int{1, 0}, 6},
		{goodCode(), []int{3, -2, 5, -7}, nil, -1},
		{goodCode(), make([]int, 4), nil, 0},
		{goodCode(), make([]int, 14), make([]int, 5), 0},
		{convolution(3, 15, 11), make([]int, 606), make([]int, 300), 0},
		{convolution(3, 15, 11), slices.Repeat([]int{7}, 606), make([]int, 300), 4242},
		{convolution(1, 2, 2), []int{-1, 1, -1, 0, 0, 0}, []int{0, 1}, 1}, // 1 1 is as good
		{convolution(1, 1, 2), []int{7, 1, -1, 0, 7, -7}, []int{0, 0}, 7}, // 1 0 is as good
	} {
		got, n, e := code.BestBits(c.code, c.soft)
		wantBoth(t, c, got, n, e, c.bits, c.metric)
	}
}

// P5.1: best bits among all of them, for small soft symbols many of which have the same metric.
func TestBestByDefinition(t *testing.T) {
	r := rand.New(rand.NewSource(2))
	for range 600 {
		c := randomCode(r)
		size := []int{1, 2, 7}[r.Intn(3)]
		soft := numbers(r, 2*(c.Memory+r.Intn(8)), -size, size)
		before := slices.Clone(soft)
		bits, metric := bestByDefinition(c, soft)
		got, n, e := code.BestBits(c, soft)
		wantBoth(t, soft, got, n, e, bits, metric)
		wantSame(t, "the soft symbols", soft, before)
	}
}

// P5.1, P5.2: the errors of the code come before those of the soft symbols.
func TestBestErrors(t *testing.T) {
	fails := func(c api.CodeConvolution, soft []int, want api.Errno) {
		t.Helper()
		got, n, e := code.BestBits(c, soft)
		wantNothing(t, c, got, n, e, want)
		p, e := code.Potentials(c, soft)
		wantNothing(t, c, nil, len(p), e, want)
		for _, p := range []api.CodePotentials{nil, {nil}, {{math.MaxInt}}} {
			n, e := code.CheckPotentials(c, soft, p)
			wantNothing(t, c, nil, n, e, want)
		}
	}
	for _, c := range badCodes() {
		fails(c.value, make([]int, 12), c.want)
		fails(c.value, []int{9}, c.want)
		fails(c.value, nil, c.want)
		fails(c.value, make([]int, 700), c.want)
	}
	for memory := 1; memory <= 3; memory++ {
		c := convolution(memory, 3, 1)
		for _, soft := range badSoft(c) {
			fails(c, soft.value, soft.want)
		}
	}
}

// copyOf returns the same potentials in other memory.
func copyOf(p api.CodePotentials) api.CodePotentials {
	var l api.CodePotentials
	for _, numbers := range p {
		l = append(l, slices.Clone(numbers))
	}
	return l
}

// P5.2, P5.8: potentials by the definition, with the metric of the best bits as the bound, and CheckPotentials accepts them. MetricOf the best bits is their metric, and that of no bits is greater.
func TestPotentials(t *testing.T) {
	r := rand.New(rand.NewSource(3))
	for i := range 600 {
		c := randomCode(r)
		size := []int{0, 1, 7}[r.Intn(3)]
		soft := numbers(r, 2*(c.Memory+r.Intn(40)), -size, size)
		if i%30 == 0 {
			soft = numbers(r, 2*(c.Memory+300), -7, 7)
		}
		before := slices.Clone(soft)
		p, e := code.Potentials(c, soft)
		wantError(t, c, e, api.OK)
		wantShape(t, c, soft, p)
		bits, most, e := code.BestBits(c, soft)
		wantError(t, c, e, api.OK)
		kept := copyOf(p)
		n, e := code.CheckPotentials(c, soft, p)
		wantNumber(t, c, n, e, most)
		for step := range p {
			wantSame(t, "the potentials", p[step], kept[step])
		}
		wantNumber(t, c, p[len(p)-1][0]-p[0][0], api.OK, most)
		metric, e := code.MetricOf(c, bits, soft)
		wantNumber(t, c, metric, e, most)
		other, e := code.MetricOf(c, numbers(r, len(bits), 0, 1), soft)
		if e != api.OK || other > most {
			t.Error(c, soft, other, most)
		}
		wantSame(t, "the soft symbols", soft, before)
	}
}

// wantShape reports potentials of a wrong shape, or against the definition.
func wantShape(t *testing.T, c api.CodeConvolution, soft []int, p api.CodePotentials) {
	t.Helper()
	if len(p) != len(soft)/2+1 {
		t.Fatal(c, len(soft), len(p))
	}
	for step, numbers := range p {
		if len(numbers) != 1<<c.Memory || slices.Max(numbers) > 1000000 || slices.Min(numbers) < -1000000 {
			t.Fatal(c, step, numbers)
		}
	}
	if !potentialsByDefinition(c, soft, p) {
		t.Fatal(c, soft, p)
	}
}

// changed returns potentials in which some numbers are a little greater or less, and all are moved by the same number.
func changed(r *rand.Rand, p api.CodePotentials, count int) api.CodePotentials {
	l := copyOf(p)
	for _, numbers := range l {
		for state := range numbers {
			numbers[state] += 500
		}
	}
	for range count {
		numbers := l[r.Intn(len(l))]
		numbers[r.Intn(len(numbers))] += between(r, -3, 3)
	}
	return l
}

// P5.2: CheckPotentials accepts exactly the potentials of the definition. P5.8: their bound is at least the metric of any bits.
func TestCheckPotentials(t *testing.T) {
	r := rand.New(rand.NewSource(4))
	accepted := 0
	for range 3000 {
		c := randomCode(r)
		soft := numbers(r, 2*(c.Memory+r.Intn(6)), -7, 7)
		good, _ := code.Potentials(c, soft)
		p := changed(r, good, r.Intn(3))
		n, e := code.CheckPotentials(c, soft, p)
		if !potentialsByDefinition(c, soft, p) {
			wantNothing(t, c, nil, n, e, api.ErrProof)
			continue
		}
		accepted++
		wantNumber(t, c, n, e, p[len(p)-1][0]-p[0][0])
		if _, most := bestByDefinition(c, soft); n < most {
			t.Error(c, soft, p, n, most)
		}
	}
	if accepted < 500 || accepted > 2500 {
		t.Error(accepted)
	}
}

// P5.2: potentials by hand: the last step has the bit 0 alone, the first one has both bits.
func TestPotentialsByHand(t *testing.T) {
	c := convolution(1, 2, 2) // both symbols are the bit
	soft := []int{-3, -4, 5, 5}
	for _, x := range []struct {
		p     api.CodePotentials
		bound int
		want  api.Errno
	}{
		{api.CodePotentials{{0, 0}, {-7, 7}, {17, 0}}, 17, api.OK},
		{api.CodePotentials{{0, 0}, {-7, 7}, {17, -1000000}}, 17, api.OK}, // no way leads to the state 1 at the last step
		{api.CodePotentials{{0, 0}, {-7, 7}, {16, 0}}, 0, api.ErrProof},   // from the state 1
		{api.CodePotentials{{0, 0}, {7, 7}, {18, 0}}, 18, api.OK},
		{api.CodePotentials{{0, 0}, {-8, 7}, {17, 0}}, 0, api.ErrProof}, // by the bit 0
		{api.CodePotentials{{0, 0}, {-7, 6}, {17, 0}}, 0, api.ErrProof}, // by the bit 1
		{api.CodePotentials{{0, 1}, {-7, 7}, {17, 0}}, 0, api.ErrProof}, // from a state that no bits reach
		{api.CodePotentials{{-1000000, -1000000}, {-1000000, 0}, {1000000, 0}}, 2000000, api.OK},
		{api.CodePotentials{{1000000, 0}, {999993, 1000000}, {1000000, 0}}, 0, api.ErrProof},
		{api.CodePotentials{{999983, 0}, {999976, 999990}, {1000000, 0}}, 17, api.OK},
		{api.CodePotentials{{999983, 0}, {999975, 999990}, {1000000, 0}}, 0, api.ErrProof},
	} {
		n, e := code.CheckPotentials(c, soft, x.p)
		wantError(t, x, e, x.want)
		if n != x.bound {
			t.Error(x, n)
		}
	}
}

// P5.2: the errors of potentials: the number of steps, then step by step their numbers, then the proof.
func TestPotentialsErrors(t *testing.T) {
	for memory := 1; memory <= 3; memory++ {
		c := convolution(memory, 3, 1)
		soft := numbers(rand.New(rand.NewSource(5)), 2*(memory+2), -7, 7)
		good, _ := code.Potentials(c, soft)
		fails := func(want api.Errno, change func(api.CodePotentials) api.CodePotentials) {
			t.Helper()
			n, e := code.CheckPotentials(c, soft, change(copyOf(good)))
			wantNothing(t, c, nil, n, e, want)
		}
		last := len(good) - 1
		fails(api.ErrShape, func(p api.CodePotentials) api.CodePotentials { return nil })
		fails(api.ErrShape, func(p api.CodePotentials) api.CodePotentials { return p[:last] })
		fails(api.ErrShape, func(p api.CodePotentials) api.CodePotentials { return append(p, p[last]) })
		fails(api.ErrShape, func(p api.CodePotentials) api.CodePotentials { p[0][0] = 1000001; return p[:last] })
		for step := range good {
			fails(api.ErrShape, func(p api.CodePotentials) api.CodePotentials { p[step] = nil; return p })
			fails(api.ErrShape, func(p api.CodePotentials) api.CodePotentials { p[step] = p[step][1:]; return p })
			fails(api.ErrShape, func(p api.CodePotentials) api.CodePotentials { p[step] = append(p[step], 1000001); return p })
			for _, n := range badNumbers(-1000000, 1000000) {
				fails(api.ErrRange, func(p api.CodePotentials) api.CodePotentials { p[step][0] = n; return p })
				fails(api.ErrRange, func(p api.CodePotentials) api.CodePotentials { p[step][1<<memory-1] = n; return p })
			}
		}
		fails(api.ErrRange, func(p api.CodePotentials) api.CodePotentials { p[0][1], p[1] = 1000001, nil; return p })
		fails(api.ErrShape, func(p api.CodePotentials) api.CodePotentials { p[0], p[1][0] = nil, 1000001; return p })
		fails(api.ErrRange, func(p api.CodePotentials) api.CodePotentials { p[0][0] += 100; p[last][0] = 1000001; return p }) // before the proof
		fails(api.ErrProof, func(p api.CodePotentials) api.CodePotentials { p[0][0]++; return p })
	}
}

// P5.9: fewer than half as many wrong symbols as the free distance, for all codes.
func TestWithinHalf(t *testing.T) {
	r := rand.New(rand.NewSource(6))
	for _, c := range allCodes() {
		free, e := code.FreeDistance(c)
		wantError(t, c, e, api.OK)
		for range 5 {
			bits := numbers(r, r.Intn(50), 0, 1)
			symbols, e := code.EncodeBits(c, bits)
			wantError(t, c, e, api.OK)
			soft := clearly(symbols, between(r, 1, 7))
			disturb(r, soft, min(len(soft), (free-1)/2))
			got, _, e := code.BestBits(c, soft)
			wantSlice(t, c, got, e, bits)
		}
	}
}
