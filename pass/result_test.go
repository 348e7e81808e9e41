package pass_test

import (
	"math/rand"
	"testing"

	"cassegrain/api"
	"cassegrain/pass"
	"cassegrain/ranging"
)

// P10.5: example 4, packets over several frames, and channels without frames.
func TestPacketsOf(t *testing.T) {
	l := with(exampleLog(), "set ada 30 0 frames 4 2", "frame bo 31 0 0 5 0 9 0 1 7")
	packets, e := pass.PacketsOf(l, 0)
	want := []api.FramePacket{{Identity: 9, Data: []int{7}}}
	wantValue(t, "example 4", packets, e, want)
	packets[0].Data[0] = 8
	packets, e = pass.PacketsOf(l, 0)
	wantValue(t, "example 4", packets, e, want)
	packets, e = pass.PacketsOf(l, 1)
	wantValue(t, "the other channel", packets, e, nil)
	packets, e = pass.PacketsOf(longLog(), 1)
	wantValue(t, "three frames", packets, e, []api.FramePacket{{Identity: 9, Count: 0, Data: []int{1, 2}}, {Identity: 9, Count: 1, Data: []int{3}}})
	packets, e = pass.PacketsOf(station(), 1)
	wantValue(t, "no frames", packets, e, nil)
}

// P10.5: the errors of packets.
func TestPacketsOfErrors(t *testing.T) {
	for _, channel := range append(badNumbers(0, 1), 0, 1) {
		packets, e := pass.PacketsOf(exampleLog(), channel)
		wantNoValue(t, "no rules", packets, e, api.ErrMissing)
		packets, e = pass.PacketsOf(nil, channel)
		wantNoValue(t, "no log", packets, e, api.ErrMissing)
	}
	for _, channel := range badNumbers(0, 1) {
		packets, e := pass.PacketsOf(longLog(), channel)
		wantNoValue(t, channel, packets, e, api.ErrMissing)
	}
}

// P10.5: example 5, distances, and their errors.
func TestDistanceOf(t *testing.T) {
	ends := func(a, b, c, d int) [2]api.Frac {
		return [2]api.Frac{{Num: a, Den: b}, {Num: c, Den: d}}
	}
	l := with(exampleLog(), "measure bo 40 0 at 0 100 120")
	distance, e := pass.DistanceOf(l, 0)
	wantValue(t, "example 5", distance, e, ends(100, 1, 120, 1))
	distance, e = pass.DistanceOf(l, 1)
	wantNoValue(t, "one distance", distance, e, api.ErrOpen)
	distance, e = pass.DistanceOf(longLog(), 5)
	wantValue(t, "two distances", distance, e, ends(110, 1, 223, 2))
	for _, l := range [][]api.PassEntry{nil, exampleLog()} {
		distance, e = pass.DistanceOf(l, 0)
		wantNoValue(t, "no measurements", distance, e, api.ErrOpen)
	}
	clash := with(l, "measure bo 41 0 at 0 121 122")
	distance, e = pass.DistanceOf(clash, 7)
	wantNoValue(t, "contradiction", distance, e, api.ErrClash)
	for _, time := range badNumbers(0, 1000) {
		for _, l := range [][]api.PassEntry{nil, l, longLog(), clash} {
			distance, e = pass.DistanceOf(l, time)
			wantNoValue(t, time, distance, e, api.ErrRange)
		}
	}
}

// P10.5: the state of the link after events.
func TestLinkOf(t *testing.T) {
	state, e := pass.LinkOf(longLog())
	want := api.CommandState{At: 7, Mode: 1, Done: []api.CommandDone{{Act: 0, At: 7}}, Base: 1}
	wantValue(t, "one act", state, e, want)
	state.Done[0].At = 8
	state, e = pass.LinkOf(longLog())
	wantValue(t, "one act", state, e, want)
	state, e = pass.LinkOf(station())
	wantValue(t, "the beginning", state, e, api.CommandState{})
	for _, l := range [][]api.PassEntry{nil, exampleLog()} {
		state, e = pass.LinkOf(l)
		wantNoValue(t, "no uplink", state, e, api.ErrMissing)
	}
	l := with(longLog(), "command cy 40 0 send 1", "command cy 40 0 reboot", "command cy 40 0 repeat 0")
	state, e = pass.LinkOf(l)
	want.Down, want.Up = []int{1, 1}, []api.CommandReport{{Next: 1}}
	wantValue(t, "in flight", state, e, want)
}

// P10.5: packets, distances and links of random logs, by definition.
func TestResultsByDefinition(t *testing.T) {
	r := rand.New(rand.NewSource(5))
	counts := map[string]int{}
	for range 300 {
		l := randomLog(r, 60, quiet)
		before := text(l)
		for channel := -1; channel < 5; channel++ {
			want, wanted := packetsByDefinition(l, channel)
			packets, e := pass.PacketsOf(l, channel)
			wantResult(t, l, packets, e, want, wanted)
			counts["packets"] += len(packets)
		}
		measured := parsed(l, api.PassMeasure, ranging.ParseMeasurement)
		for _, time := range []int{-1, 0, 7, 1000, 1001} {
			want, wanted := ranging.DistanceIn(measured, time)
			distance, e := pass.DistanceOf(l, time)
			wantResult(t, l, distance, e, want, wanted)
			if wanted == api.OK {
				counts["distances"]++
			}
		}
		uplink, state, wanted := linkByDefinition(l)
		u, e := pass.UplinkOf(l)
		wantResult(t, l, u, e, uplink, wanted)
		s, e := pass.LinkOf(l)
		wantResult(t, l, s, e, state, wanted)
		counts["acts"] += len(s.Done)
		wantSame(t, l, before)
	}
	if counts["packets"] < 100 || counts["distances"] < 100 || counts["acts"] < 20 {
		t.Error(counts)
	}
}
