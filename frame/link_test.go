package frame_test

import (
	"math/rand"
	"testing"

	"cassegrain/api"
	"cassegrain/frame"
)

// framesOf returns frames of the channel 0 with these counts, each with its index in its data.
func framesOf(counts ...int) []api.FrameFrame {
	var l []api.FrameFrame
	for i, count := range counts {
		l = append(l, newFrame(0, count, 255, i, 0, 0, 0))
	}
	return l
}

// wantOrder reports an order of frames with these counts other than the wanted one (of their indexes), another number of missing ones, or another loss.
func wantOrder(t *testing.T, counts, order []int, missing int, loss api.Frac) {
	t.Helper()
	got, e := frame.Ordered(exampleRules(), 0, framesOf(counts...))
	wantError(t, counts, e, api.OK)
	var indexes []int
	for _, f := range got {
		indexes = append(indexes, f.Data[0])
	}
	wantSame(t, counts, indexes, order)
	n, e := frame.MissingOf(exampleRules(), 0, framesOf(counts...))
	wantNumber(t, counts, n, e, missing)
	part, e := frame.LossOf(exampleRules(), 0, framesOf(counts...))
	wantError(t, counts, e, api.OK)
	if part != loss {
		t.Errorf("%v: %v, want %v", counts, part, loss)
	}
}

// P6.4: example 6, and other counts: the closest full count, of two the greater one, by the frame before in the slice.
func TestOrderedExamples(t *testing.T) {
	none := api.Frac{Num: 0, Den: 1}
	wantOrder(t, []int{63, 0, 62}, []int{2, 0, 1}, 0, none)
	wantOrder(t, []int{5}, []int{0}, 0, none)
	wantOrder(t, []int{0, 63, 62}, []int{2, 1, 0}, 0, none) // below the first full count
	wantOrder(t, []int{0, 2}, []int{0, 1}, 1, api.Frac{Num: 1, Den: 3})
	wantOrder(t, []int{0, 3}, []int{0, 1}, 2, api.Frac{Num: 1, Den: 2})
	wantOrder(t, []int{0, 32}, []int{0, 1}, 31, api.Frac{Num: 31, Den: 33}) // 32 before and after
	wantOrder(t, []int{32, 0}, []int{0, 1}, 31, api.Frac{Num: 31, Den: 33})
	wantOrder(t, []int{0, 33}, []int{1, 0}, 30, api.Frac{Num: 15, Den: 16})
	wantOrder(t, []int{40, 8}, []int{0, 1}, 31, api.Frac{Num: 31, Den: 33})
	wantOrder(t, []int{40, 9}, []int{1, 0}, 30, api.Frac{Num: 15, Den: 16})
	wantOrder(t, []int{7, 7, 7}, []int{0}, 0, none)                                               // the first one counts
	wantOrder(t, []int{8, 7, 8, 7}, []int{1, 0}, 0, none)                                         // repeated out of order
	wantOrder(t, []int{0, 30, 60, 26}, []int{0, 1, 2, 3}, 87, api.Frac{Num: 87, Den: 91})         // a whole turn further
	wantOrder(t, []int{0, 30, 60, 26, 56, 0}, []int{0, 1, 2, 3, 4, 5}, 123, fractionOf(123, 129)) // the same count, two turns later
	wantOrder(t, []int{0, 40, 16, 56}, []int{3, 2, 1, 0}, 69, api.Frac{Num: 69, Den: 73})         // far below 0
	wantOrder(t, []int{0, 20, 40, 0}, []int{0, 1, 2, 3}, 61, api.Frac{Num: 61, Den: 65})          // 24 after 40, not 40 before it
	wantOrder(t, []int{0, 20, 40, 20, 0}, []int{0, 1, 2}, 38, api.Frac{Num: 38, Den: 41})         // back again
}

// fractionOf returns a fraction in lowest terms.
func fractionOf(num, den int) api.Frac {
	x := fraction(num, den)
	return api.Frac{Num: int(x.Num().Int64()), Den: int(x.Denom().Int64())}
}

// scattered returns frames of both channels of the examples' rules, with counts that are near each other, or not.
func scattered(r *rand.Rand) []api.FrameFrame {
	var l []api.FrameFrame
	count, step := r.Intn(64), between(r, 1, 40)
	for range r.Intn(41) {
		f := randomFrame(r, exampleRules())
		count = (count + between(r, -step, step) + 64) % 64
		f.Count = count
		l = append(l, f)
	}
	return l
}

// P6.4: frames by the definition. P6.10: the ordered frames and the missing ones are all full counts.
func TestOrderedByDefinition(t *testing.T) {
	r := rand.New(rand.NewSource(6))
	for range 3000 {
		l, channel := scattered(r), r.Intn(2)
		before := cloneFrames(l)
		want := orderedByDefinition(channel, l)
		_, first, last := numberedByDefinition(channel, l)
		got, e := frame.Ordered(exampleRules(), channel, l)
		wantFrames(t, l, got, e, want)
		n, e := frame.MissingOf(exampleRules(), channel, l)
		wantNumber(t, l, n, e, last-first+1-len(want))
		loss, e := frame.LossOf(exampleRules(), channel, l)
		if len(want) == 0 {
			wantError(t, l, e, api.ErrNone)
		} else {
			wantError(t, l, e, api.OK)
		}
		if len(want) > 0 && loss != fractionOf(n, last-first+1) || len(want) == 0 && loss != (api.Frac{}) {
			t.Error(l, loss)
		}
		wantSeparate(t, l, dataOf(got))
		wantFrames(t, "the frames", l, api.OK, before)
	}
}

// P6.4: frames of other channels do not matter; without frames nothing is missing, and there is no loss.
func TestOtherChannels(t *testing.T) {
	others := []api.FrameFrame{newFrame(1, 0, 0, 1, 2, 3, 4), newFrame(1, 9, 0, 1, 2, 3, 4)}
	for _, l := range [][]api.FrameFrame{nil, {}, others} {
		frames, e := frame.Ordered(exampleRules(), 0, l)
		wantFrames(t, l, frames, e, nil)
		n, e := frame.MissingOf(exampleRules(), 0, l)
		wantNumber(t, l, n, e, 0)
		packets, e := frame.Extracted(exampleRules(), 0, l)
		wantPackets(t, l, packets, e, nil)
		loss, e := frame.LossOf(exampleRules(), 0, l)
		wantError(t, l, e, api.ErrNone)
		if loss != (api.Frac{}) {
			t.Error(loss)
		}
	}
	mixed := []api.FrameFrame{newFrame(1, 40, 255, 1, 1, 1, 1), newFrame(0, 63, 255, 2, 2, 2, 2), newFrame(1, 20, 255, 3, 3, 3, 3), newFrame(0, 0, 255, 4, 4, 4, 4)}
	got, e := frame.Ordered(exampleRules(), 0, mixed)
	wantFrames(t, "mixed", got, e, []api.FrameFrame{mixed[1], mixed[3]})
	got, e = frame.Ordered(exampleRules(), 1, mixed)
	wantFrames(t, "mixed", got, e, []api.FrameFrame{mixed[2], mixed[0]})
}

// wantRefused reports a call with rules, a channel and frames that does not return an error, or something beside it.
func wantRefused(t *testing.T, what any, x api.FrameRules, channel int, l []api.FrameFrame, want api.Errno) {
	t.Helper()
	frames, e := frame.Ordered(x, channel, l)
	wantNothing(t, what, len(frames), e, want)
	n, e := frame.MissingOf(x, channel, l)
	wantNothing(t, what, n, e, want)
	packets, e := frame.Extracted(x, channel, l)
	wantNothing(t, what, len(packets), e, want)
	loss, e := frame.LossOf(x, channel, l)
	wantNothing(t, what, loss.Num+loss.Den, e, want)
}

// P6.4: the errors of rules, a channel and frames, in their order.
func TestReceivedErrors(t *testing.T) {
	good := framesOf(1, 2)
	for _, x := range badRules() {
		wantRefused(t, x, x, 0, good, api.ErrRange)
		wantRefused(t, x, x, -1, repeated(newFrame(-1, -1, 0), 41), api.ErrRange)
	}
	for _, n := range badNumbers(0, 1) {
		wantRefused(t, n, exampleRules(), n, good, api.ErrMissing)
		wantRefused(t, n, exampleRules(), n, nil, api.ErrMissing)
		wantRefused(t, n, exampleRules(), n, repeated(good[0], 41), api.ErrMissing)
		wantRefused(t, n, exampleRules(), n, []api.FrameFrame{newFrame(0, 64, 0)}, api.ErrMissing)
	}
	wantRefused(t, "41 frames", exampleRules(), 0, repeated(good[0], 41), api.ErrLarge)
	wantRefused(t, "41 frames", exampleRules(), 1, repeated(good[0], 41), api.ErrLarge)
	wantRefused(t, "41 frames", exampleRules(), 0, repeated(newFrame(-1, -1, 0), 41), api.ErrLarge)
	for _, c := range badFrames() {
		for channel := range 2 { // also a frame of another channel
			wantRefused(t, c, exampleRules(), channel, []api.FrameFrame{c.value}, c.want)
			wantRefused(t, c, exampleRules(), channel, []api.FrameFrame{good[0], good[0], c.value, newFrame(-1, 0, 0), newFrame(0, -1, 0)}, c.want)
		}
	}
	frames, e := frame.Ordered(exampleRules(), 0, repeated(good[0], 40))
	wantFrames(t, "40 frames", frames, e, good[:1])
}
