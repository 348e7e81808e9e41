package path_test

import (
	"math"
	"math/rand"
	"testing"

	"cassegrain/api"
	"cassegrain/path"
)

// still returns a track that stays at x from one time to another one.
func still(doubt, x, from, to int) api.PathTrack {
	return track(doubt, knot(from, x, 0, 0), knot(to, x, 0, 0))
}

// P1.3: example 3, tracks that touch, and doubts.
func TestReceivedAt(t *testing.T) {
	for _, c := range []struct {
		a, b api.PathTrack
		sent int
		want api.Range
	}{
		{station(), probe(0), 0, span(999, 1000)},
		{probe(0), station(), 0, span(499, 500)},
		{probe(0), station(), 1, span(501, 502)}, // from the distance 500 1/2
		{station(), station(), 300, span(300, 300)},
		{station(), still(0, 1, 0, 1000), 300, span(300, 301)},
		{station(), still(2, 1, 0, 1000), 300, span(300, 305)}, // the boxes touch; the root of 9 + 4 + 4 is above 4
		{station(), still(1, 10, 0, 1000), 0, span(8, 12)},     // from 9 to the root of 123
		{station(), still(0, 10, 0, 10), 0, span(9, 10)},
	} {
		if x, e := path.ReceivedAt(c.a, c.b, c.sent); e != api.OK || x != c.want {
			t.Error(c, x, e)
		}
	}
}

// P1.3: example 3, tracks that touch, and doubts.
func TestSentAt(t *testing.T) {
	for _, c := range []struct {
		a, b     api.PathTrack
		received int
		want     api.Range
	}{
		{station(), probe(0), 1000, span(0, 1)},
		{probe(0), station(), 1000, span(333, 334)}, // 500 + t / 2 is 1000 - t
		{station(), station(), 300, span(300, 300)},
		{station(), still(0, 1, 0, 1000), 300, span(299, 300)},
		{station(), still(1, 10, 0, 1000), 100, span(88, 92)},
		{station(), still(0, 10, 0, 10), 10, span(0, 1)},
	} {
		if x, e := path.SentAt(c.a, c.b, c.received); e != api.OK || x != c.want {
			t.Error(c, x, e)
		}
	}
}

// P1.3: signals that do not arrive, or were not sent.
func TestLightNone(t *testing.T) {
	_, e := path.ReceivedAt(station(), probe(0), 1)
	wantError(t, "after the last signal", e, api.ErrNone)
	_, e = path.ReceivedAt(station(), still(0, 10, 0, 9), 0)
	wantError(t, "before it arrives", e, api.ErrNone)
	_, e = path.SentAt(station(), probe(0), 999)
	wantError(t, "before the first signal", e, api.ErrNone)
	_, e = path.SentAt(station(), still(0, 10, 0, 10), 9)
	wantError(t, "before it arrives", e, api.ErrNone)
	_, e = path.ReceivedAt(track(1, knot(4, 0, 0, 0)), track(0, knot(4, 0, 0, 0)), 4)
	wantError(t, "only perhaps at once", e, api.ErrNone)
	x, e := path.ReceivedAt(track(0, knot(4, 0, 0, 0)), track(0, knot(4, 0, 0, 0)), 4)
	if e != api.OK || x != span(4, 4) {
		t.Error("at once", x, e)
	}
}

// P1.3: the errors of both tracks and of the time come in this order.
func TestLightErrors(t *testing.T) {
	type question func(a, b api.PathTrack, time int) (api.Range, api.Errno)
	for name, ask := range map[string]question{"received": path.ReceivedAt, "sent": path.SentAt, "round": path.RoundTrip} {
		for want, p := range invalid() {
			for _, c := range [][2]api.PathTrack{{p, probe(-1)}, {probe(0), p}} {
				x, e := ask(c[0], c[1], -1)
				wantError(t, name, e, want)
				if x != (api.Range{}) {
					t.Error(name, x)
				}
			}
		}
		for _, time := range []int{-1, 11, 1001, math.MinInt, math.MaxInt} {
			_, e := ask(short(), probe(0), time)
			wantError(t, name, e, api.ErrRange)
			_, e = ask(probe(0), short(), time)
			wantError(t, name, e, api.ErrRange)
		}
	}
}

// P1.3: ranges that are accepted, and the errors in their order.
func TestCheckReceived(t *testing.T) {
	for _, c := range []struct {
		sent, lo, hi int
		want         api.Errno
	}{
		{0, 999, 1000, api.OK},
		{0, 10, 1000, api.OK},
		{0, 0, 1000, api.OK},
		{0, 1000, 1000, api.ErrProof},
		{0, 999, 999, api.ErrProof},
		{20, 10, 1000, api.ErrOrder},
		{20, 30, 29, api.ErrOrder},
		{-1, 999, 1000, api.ErrRange},
		{0, -1, 1000, api.ErrRange},
		{0, 999, 1001, api.ErrRange},
		{20, 10, 1001, api.ErrRange}, // before the order
		{math.MaxInt, math.MinInt, math.MaxInt, api.ErrRange},
	} {
		x := api.PathSignal{Sent: c.sent, Received: span(c.lo, c.hi)}
		wantError(t, x, path.CheckReceived(station(), probe(0), x), c.want)
	}
	at := func(sent, lo, hi int) api.PathSignal { return api.PathSignal{Sent: sent, Received: span(lo, hi)} }
	wantError(t, "touching", path.CheckReceived(station(), station(), at(5, 5, 5)), api.OK)
	wantError(t, "touching", path.CheckReceived(station(), station(), at(5, 6, 6)), api.ErrProof)
	for want, p := range invalid() {
		wantError(t, p, path.CheckReceived(p, probe(-1), at(-1, -1, -1)), want)
		wantError(t, p, path.CheckReceived(probe(0), p, at(-1, -1, -1)), want)
	}
	for _, x := range []api.PathSignal{at(11, 11, 11), at(0, 11, 11), at(0, 5, 11)} { // each time must be one of both tracks
		wantError(t, x, path.CheckReceived(short(), probe(0), x), api.ErrRange)
		wantError(t, x, path.CheckReceived(probe(0), short(), x), api.ErrRange)
	}
}

// P1.3: there and back.
func TestRoundTrip(t *testing.T) {
	for _, c := range []struct {
		doubt, sent int
		want        api.Range
	}{
		{0, 5, span(23, 25)}, // from 14 (not yet there) and from 15, 10 on each way
		{1, 0, span(16, 24)},
	} {
		if x, e := path.RoundTrip(station(), still(c.doubt, 10, 0, 1000), c.sent); e != api.OK || x != c.want {
			t.Error(c, x, e)
		}
	}
	_, e := path.RoundTrip(station(), probe(0), 1)
	wantError(t, "does not arrive", e, api.ErrNone)
	_, e = path.RoundTrip(station(), probe(0), 0)
	wantError(t, "does not return", e, api.ErrNone)
	_, e = path.RoundTrip(still(0, 0, 0, 19), still(0, 10, 0, 1000), 0)
	wantError(t, "only the early one returns", e, api.ErrNone)
	_, e = path.RoundTrip(still(0, 0, 0, 8), still(0, 10, 0, 1000), 0)
	wantError(t, "sent back after the last time", e, api.ErrRange)
	_, e = path.RoundTrip(still(0, 0, 0, 9), still(0, 10, 0, 1000), 0)
	wantError(t, "the early one comes first", e, api.ErrNone)
}

// P1.3, P1.8 and P1.9: all of it by trying every time.
func TestLightExhaustive(t *testing.T) {
	r := rand.New(rand.NewSource(6))
	for range 150 {
		a, b := randomTrack(r, 15, 3), randomTrack(r, 15, 3)
		for time := 0; time <= min(last(a), last(b)); time += 1 + r.Intn(5) {
			checkReceivedAt(t, a, b, time)
			checkSentAt(t, a, b, time)
			checkRoundTrip(t, a, b, time)
		}
	}
}

func checkReceivedAt(t *testing.T, a, b api.PathTrack, sent int) {
	t.Helper()
	lo, hi := sent, -1
	for r := sent; r <= last(b); r++ {
		if notArrived(a, b, sent, r) {
			lo = r
			if r > sent && !notArrived(a, b, sent, r-1) {
				t.Fatal("arrived, and not later", a, b, sent, r)
			}
		}
		if hi < 0 && arrived(a, b, sent, r) {
			hi = r
		}
		if hi >= 0 && !arrived(a, b, sent, r) {
			t.Fatal("arrived, and not later", a, b, sent, r)
		}
	}
	x, e := path.ReceivedAt(a, b, sent)
	if hi < 0 {
		wantError(t, "received", e, api.ErrNone)
		return
	}
	if e != api.OK || x != span(lo, hi) {
		t.Fatal(a, b, sent, x, e, lo, hi)
	}
	if x.Hi <= last(a) {
		wantError(t, "accepted", path.CheckReceived(a, b, api.PathSignal{Sent: sent, Received: x}), api.OK)
	}
	for r := sent; r <= min(last(a), last(b)); r++ {
		early := path.CheckReceived(a, b, api.PathSignal{Sent: sent, Received: span(sent, r)})
		if (early == api.OK) != (r >= hi) {
			t.Fatal(a, b, sent, r, early)
		}
		if x.Hi <= last(a) && r <= hi {
			late := path.CheckReceived(a, b, api.PathSignal{Sent: sent, Received: span(r, hi)})
			if (late == api.OK) != (r <= lo) {
				t.Fatal(a, b, sent, r, late)
			}
		}
	}
}

func checkSentAt(t *testing.T, a, b api.PathTrack, received int) {
	t.Helper()
	lo, hi := -1, received
	for s := received; s >= 0; s-- {
		if lo < 0 && arrived(a, b, s, received) {
			lo = s
		}
		if notArrived(a, b, s, received) {
			hi = s
		}
	}
	x, e := path.SentAt(a, b, received)
	if lo < 0 {
		wantError(t, "sent", e, api.ErrNone)
		return
	}
	if e != api.OK || x != span(lo, hi) {
		t.Fatal(a, b, received, x, e, lo, hi)
	}
	if there, e := path.ReceivedAt(a, b, x.Lo); e != api.OK || there.Hi > received {
		t.Fatal(a, b, received, x, there, e)
	}
}

func checkRoundTrip(t *testing.T, a, b api.PathTrack, sent int) {
	t.Helper()
	there, want := path.ReceivedAt(a, b, sent)
	var back [2]api.Range
	for i, time := range []int{there.Lo, there.Hi} {
		if want == api.OK {
			back[i], want = path.ReceivedAt(b, a, time)
		}
	}
	x, e := path.RoundTrip(a, b, sent)
	wantError(t, "round", e, want)
	if e == api.OK && x != span(back[0].Lo, back[1].Hi) {
		t.Fatal(a, b, sent, x, back)
	}
}
