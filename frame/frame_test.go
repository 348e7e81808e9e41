package frame_test

import (
	"math"
	"math/rand"
	"slices"
	"testing"

	"cassegrain/api"
	"cassegrain/frame"
)

// badRules returns rules that are not valid.
func badRules() []api.FrameRules {
	var l []api.FrameRules
	for _, n := range badNumbers(4, 24) {
		l = append(l, rules(n, 1), rules(n, 0))
	}
	for _, n := range badNumbers(1, 4) {
		l = append(l, rules(4, n), rules(24, n))
	}
	return append(l, api.FrameRules{})
}

// badFrame is a frame that is not valid, and its error.
type badFrame struct {
	value api.FrameFrame
	want  api.Errno
}

// badFrames returns frames that are not valid for the examples' rules, some of them for several reasons.
func badFrames() []badFrame {
	var l []badFrame
	add := func(e api.Errno, f api.FrameFrame) { l = append(l, badFrame{f, e}) }
	for _, n := range badNumbers(0, 1) {
		add(api.ErrMissing, newFrame(n, 0, 0, 1, 2, 3, 4))
		add(api.ErrMissing, newFrame(n, 64, 4, 256))
	}
	for _, n := range badNumbers(0, 63) {
		add(api.ErrRange, newFrame(1, n, 0, 1, 2, 3, 4))
		add(api.ErrRange, newFrame(1, n, 0, 1, 2, 3))
	}
	for _, n := range []int{math.MinInt, -1, 4, 5, 23, 24, 254, 256, math.MaxInt} {
		add(api.ErrRange, newFrame(1, 0, n, 1, 2, 3, 4))
		add(api.ErrRange, newFrame(1, 0, n))
	}
	for _, n := range []int{0, 1, 3, 5, 24, 1000} {
		add(api.ErrShape, newFrame(1, 63, 3, make([]int, n)...))
		add(api.ErrShape, newFrame(1, 63, 255, repeated(256, n)...))
	}
	for _, n := range badNumbers(0, 255) {
		for i := range 4 {
			add(api.ErrRange, newFrame(0, 0, 255, with([]int{1, 2, 3, 4}, i, n)...))
		}
	}
	return l
}

// P6.1: rules within the limits, and the errors of others.
func TestCheckRules(t *testing.T) {
	for length := 4; length <= 24; length++ {
		for channels := 1; channels <= 4; channels++ {
			wantError(t, length, frame.CheckRules(rules(length, channels)), api.OK)
		}
	}
	for _, x := range badRules() {
		wantError(t, x, frame.CheckRules(x), api.ErrRange)
	}
}

// P6.1: frames of rules, and the errors of others in their order.
func TestCheckFrame(t *testing.T) {
	for length := 4; length <= 24; length++ {
		for channel := range 4 {
			for _, first := range []int{0, 1, length - 1, 255} {
				x, f := rules(length, 4), newFrame(channel, 63, first, repeated(255, length)...)
				wantError(t, f, frame.CheckFrame(x, f), api.OK)
				x.Channels = 3
				want := api.OK
				if channel == 3 {
					want = api.ErrMissing
				}
				wantError(t, f, frame.CheckFrame(x, f), want)
			}
			f := newFrame(channel, 0, length, make([]int, length)...)
			wantError(t, f, frame.CheckFrame(rules(length, 4), f), api.ErrRange)
		}
	}
	for _, c := range badFrames() {
		wantError(t, c.value, frame.CheckFrame(exampleRules(), c.value), c.want)
	}
	for _, x := range badRules() {
		wantError(t, x, frame.CheckFrame(x, newFrame(0, 0, 0, 1, 2, 3, 4)), api.ErrRange)
		wantError(t, x, frame.CheckFrame(x, newFrame(-1, 0, 0, 1, 2, 3)), api.ErrRange)
	}
	r := rand.New(rand.NewSource(1))
	for range 300 {
		x := randomRules(r)
		f := randomFrame(r, x)
		before := slices.Clone(f.Data)
		wantError(t, f, frame.CheckFrame(x, f), api.OK)
		wantSame(t, "the data", f.Data, before)
	}
}
