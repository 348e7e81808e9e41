package pass_test

import (
	"math/rand"
	"testing"

	"cassegrain/api"
	"cassegrain/carrier"
	"cassegrain/pass"
	"cassegrain/sample"
)

// P10.4: example 2.
func TestReplayExample(t *testing.T) {
	l := exampleLog()
	stream, e := pass.StreamOf(l)
	five := api.Gauss{Re: 5}
	wantValue(t, "the stream", stream, e, api.SampleStream{First: 1024, Samples: []api.Gauss{five, five, five, five, five, five, {}, {}}})
	want := api.PassReport{Samples: 8, Used: 6, Locked: 4, First: 2, State: api.CarrierState{Phase: 248}}
	report, e := pass.Replay(l)
	wantValue(t, "replay", report, e, want)
	loop, lock := api.CarrierLoop{First: 1, Den: 2}, api.CarrierLock{Limit: 200, Window: 2, Need: 2}
	report, e = pass.Play(l, loop, lock)
	wantValue(t, "play", report, e, want)
	report, e = pass.Play(l[:2:2], loop, lock)
	wantNoValue(t, "no packets", report, e, api.ErrNone)
	report, e = pass.Play(with(l[:2], "take bo 20 0 "+examplePacket), loop, lock) // without settings in force
	wantValue(t, "play", report, e, want)
	report, e = pass.Play(l, loop, api.CarrierLock{Limit: 10, Window: 1, Need: 1})
	wantValue(t, "another lock", report, e, api.PassReport{Samples: 8, Used: 6, Locked: 1, First: 5, State: api.CarrierState{Phase: 248}})
	report, e = pass.Play(l, loop, api.CarrierLock{Limit: 7, Window: 1, Need: 1})
	wantValue(t, "no lock", report, e, api.PassReport{Samples: 8, Used: 6, First: -1, State: api.CarrierState{Phase: 248}})
	report, e = pass.Play(l, api.CarrierLoop{First: 1, Second: 1, Den: 4, Frequency: 100}, lock)
	wanted, _ := playByDefinition(l, api.CarrierLoop{First: 1, Second: 1, Den: 4, Frequency: 100}, lock)
	wantValue(t, "a loop of second order", report, e, wanted)
}

// P10.4: a stream without phases, with gaps, and with late and repeated packets.
func TestReplayEdges(t *testing.T) {
	zero := with(exampleLog()[:4], "take bo 20 0 "+packet(7, 1, 0, 0), "take bo 20 0 "+packet(9, 1, 0, 0))
	report, e := pass.Replay(zero)
	wantValue(t, "no phases", report, e, api.PassReport{Samples: 24, First: -1})
	stream, e := pass.StreamOf(zero)
	wantValue(t, "zero", stream, e, api.SampleStream{First: 1031, Samples: make([]api.Gauss, 24), Gaps: []api.Range{{Lo: 8, Hi: 15}}})
	l := with(exampleLog()[:4], "take bo 20 0 "+packet(2, 1, 0, 5), "take bo 20 0 "+packet(1, 1, 5, 0), "take bo 20 0 "+packet(2, 1, 0, 5), "take bo 20 0 "+packet(0, 1, 0, 0))
	stream, e = pass.StreamOf(l)
	wanted, _ := sample.Assembled(parsed(l, api.PassTake, sample.ParsePacket))
	wantValue(t, "late", stream, e, wanted)
	report, e = pass.Replay(l)
	wantedReport, _ := replayByDefinition(l)
	wantValue(t, "late", report, e, wantedReport)
	if report.Samples != 24 || report.Used != 16 {
		t.Error(report)
	}
	stream.Samples[0] = api.Gauss{Re: -1}
	stream, e = pass.StreamOf(l)
	wantValue(t, "late", stream, e, wanted)
}

// P10.4: the errors of streams and replays, in their order.
func TestReplayErrors(t *testing.T) {
	empty := exampleLog()[:4]
	stream, e := pass.StreamOf(empty)
	wantNoValue(t, "no packets", stream, e, api.ErrNone)
	stream, e = pass.StreamOf(nil)
	wantNoValue(t, "no log", stream, e, api.ErrNone)
	report, e := pass.Replay(empty)
	wantNoValue(t, "no packets", report, e, api.ErrNone)
	long := exampleLog()
	for i := range 25 {
		long = append(long, entry("take bo 30 0 "+packet(1+i, 1, 1, 0)))
	}
	report, e = pass.Replay(long)
	wantNoValue(t, "206 phases", report, e, api.ErrLarge)
	wide := append(with(exampleLog()[:4], "take bo 30 0 "+packet(0, 1, 0, 0)), long[5:]...)
	report, e = pass.Replay(wide)
	wanted, _ := replayByDefinition(wide)
	wantValue(t, "200 phases of 208 samples", report, e, wanted)
	if report.Used != 200 || report.Samples != 208 {
		t.Error(report)
	}
	for _, l := range [][]api.PassEntry{nil, exampleLog()[:3], with(exampleLog()[:2], "set ada 6 0 lock 200 2 2"), with(long[:3], "take bo 30 0 "+examplePacket), long[:2]} {
		report, e := pass.Replay(l)
		wantNoValue(t, "a setting is missing", report, e, api.ErrMissing)
	}
	badLoops := []api.CarrierLoop{{}, {First: -1, Den: 1}, {First: 1001, Den: 1}, {Second: -1, Den: 1}, {Den: -1}, {Den: 1001}, {Den: 1, Frequency: 2048}, {Den: 1, Frequency: -2049}}
	badLocks := []api.CarrierLock{{}, {Limit: -1, Window: 1, Need: 1}, {Limit: 2049, Window: 1, Need: 1}, {Window: 0, Need: 0}, {Window: 201, Need: 1}, {Window: 5, Need: 6}, {Window: 5}}
	for _, l := range [][]api.PassEntry{nil, empty, exampleLog(), long} {
		for _, loop := range badLoops {
			report, e := pass.Play(l, loop, badLocks[0])
			wantNoValue(t, loop, report, e, api.ErrRange)
			report, e = pass.Play(l, loop, api.CarrierLock{Window: 1, Need: 1})
			wantNoValue(t, loop, report, e, api.ErrRange)
		}
		for _, lock := range badLocks {
			report, e := pass.Play(l, api.CarrierLoop{Den: 1}, lock)
			wantNoValue(t, lock, report, e, api.ErrRange)
		}
	}
	report, e = pass.Play(long, api.CarrierLoop{Den: 1}, api.CarrierLock{Window: 1, Need: 1})
	wantNoValue(t, "206 phases", report, e, api.ErrLarge)
	report, e = pass.Play(nil, api.CarrierLoop{Den: 1}, api.CarrierLock{Window: 1, Need: 1})
	wantNoValue(t, "no packets", report, e, api.ErrNone)
}

// P10.4, P10.11: replays of random logs by definition; Play with the settings in force is Replay, other entries do not change it, and a recovered log has the same one.
func TestReplayByDefinition(t *testing.T) {
	r := rand.New(rand.NewSource(4))
	counts := map[api.Errno]int{}
	for range 200 {
		l := randomLog(r, 60, quiet)
		want, wanted := replayByDefinition(l)
		counts[wanted]++
		report, e := pass.Replay(l)
		wantResult(t, l, report, e, want, wanted)
		journal, _ := pass.Journal(l)
		again, _, _ := pass.Recovered(journal)
		report, e = pass.Replay(again)
		wantResult(t, again, report, e, want, wanted)
		packets := parsed(l, api.PassTake, sample.ParsePacket)
		stream, e := pass.StreamOf(l)
		if len(packets) == 0 {
			wantNoValue(t, l, stream, e, api.ErrNone)
		} else {
			whole, _ := sample.Assembled(packets)
			wantValue(t, l, stream, e, whole)
		}
		var few []api.PassEntry
		for _, x := range l {
			if x.Kind == api.PassTake || x.Kind == api.PassSet || x.Kind == api.PassJoin {
				few = append(few, x)
			}
		}
		report, e = pass.Replay(few)
		wantResult(t, few, report, e, want, wanted)
		for range 3 {
			loop := api.CarrierLoop{First: r.Intn(9), Second: r.Intn(4), Den: between(r, 1, 9), Frequency: between(r, -99, 99)}
			lock := api.CarrierLock{Limit: r.Intn(2049), Window: 5, Need: between(r, 1, 5)}
			want, wanted := playByDefinition(l, loop, lock)
			report, e = pass.Play(l, loop, lock)
			wantResult(t, l, report, e, want, wanted)
		}
		if wanted == api.OK {
			s, _ := pass.SettingAt(l, "loop", api.MaxTick)
			loop, _ := carrier.ParseLoop(s)
			s, _ = pass.SettingAt(l, "lock", api.MaxTick)
			report, e = pass.Play(l, loop, lockByDefinition(s))
			wantValue(t, l, report, e, want)
		}
	}
	if counts[api.OK] < 50 || counts[api.ErrMissing] < 5 {
		t.Error(counts)
	}
}
