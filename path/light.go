package path

import (
	"cassegrain/api"
	"cassegrain/check"
)

// surelyArrived says whether a signal that a sends surely has arrived at b.
// With later times of b (and with earlier ones of a) it goes on to hold: no point is faster than half as fast as light, so the elapsed time increases by more than the maximum distance.
func surelyArrived(a, b api.PathTrack, sent, received int) bool {
	v := vectorBetween(a, b, [2]int{sent, received})
	return !v.squareOver(received - sent).less(v.farthest())
}

// surelyNotArrived says whether a signal that a sends surely has not arrived at b.
// With earlier times of b (and with later ones of a) it goes on to hold.
func surelyNotArrived(a, b api.PathTrack, sent, received int) bool {
	v := vectorBetween(a, b, [2]int{sent, received})
	return v.squareOver(received - sent).less(v.nearest())
}

// ReceivedAt returns the range of times at which b receives what a sends.
func ReceivedAt(a, b api.PathTrack, sent int) (api.Range, api.Errno) {
	if e := check.First(trackCheck(a), trackCheck(b), timeCheck(sent, a, b)); e != api.OK {
		return api.Range{}, e
	}
	last := lastTime(b)
	arrived := least(sent, last, func(r int) bool { return surelyArrived(a, b, sent, r) })
	if arrived > last {
		return api.Range{}, api.ErrNone
	}
	possible := least(sent, arrived, func(r int) bool { return !surelyNotArrived(a, b, sent, r) })
	return api.Range{Lo: max(sent, possible-1), Hi: arrived}, api.OK
}

// SentAt returns the range of times at which a may send what b receives.
func SentAt(a, b api.PathTrack, received int) (api.Range, api.Errno) {
	if e := check.First(trackCheck(a), trackCheck(b), timeCheck(received, a, b)); e != api.OK {
		return api.Range{}, e
	}
	first := firstTime(a)
	doubtful := least(first, received, func(s int) bool { return !surelyArrived(a, b, s, received) })
	if doubtful == first {
		return api.Range{}, api.ErrNone
	}
	late := least(doubtful, received, func(s int) bool { return surelyNotArrived(a, b, s, received) })
	return api.Range{Lo: doubtful - 1, Hi: min(received, late)}, api.OK
}

// CheckReceived accepts a signal whose range contains the time at which it is received.
func CheckReceived(a, b api.PathTrack, x api.PathSignal) api.Errno {
	lo, hi := x.Received.Lo, x.Received.Hi
	return check.First(
		trackCheck(a), trackCheck(b),
		timeCheck(x.Sent, a, b), timeCheck(lo, a, b), timeCheck(hi, a, b),
		check.Require(api.ErrOrder, func() bool { return x.Sent <= lo && lo <= hi }),
		check.Require(api.ErrProof, func() bool { return lo == x.Sent || surelyNotArrived(a, b, x.Sent, lo) }),
		check.Require(api.ErrProof, func() bool { return surelyArrived(a, b, x.Sent, hi) }),
	)
}

// RoundTrip returns the range of times at which a signal that b sends back returns to a.
func RoundTrip(a, b api.PathTrack, sent int) (api.Range, api.Errno) {
	there, e := ReceivedAt(a, b, sent)
	if e != api.OK {
		return api.Range{}, e
	}
	early, e := ReceivedAt(b, a, there.Lo)
	if e != api.OK {
		return api.Range{}, e
	}
	late, e := ReceivedAt(b, a, there.Hi)
	if e != api.OK {
		return api.Range{}, e
	}
	return api.Range{Lo: early.Lo, Hi: late.Hi}, api.OK
}
