package path

import (
	"cassegrain/api"
	"cassegrain/check"
	"cassegrain/number"
)

// maxDistance is at least any distance: the sum of the sizes of the components of the longest vector.
const maxDistance = 3 * 2 * (api.MaxPathPosition + api.MaxPathDoubt)

// between is the vector from the point of a track to that of another one: its place seen from the first one, and by how much each component may differ, over the same denominator.
type between struct {
	place
	doubt int
}

// vectorBetween returns the vector from a at times[0] to b at times[1].
func vectorBetween(a, b api.PathTrack, times [2]int) between {
	from, to := placeAt(a, times[0]), placeAt(b, times[1])
	var v between
	v.den = from.den * to.den
	v.doubt = (a.Doubt + b.Doubt) * v.den
	for i := range v.at {
		v.at[i] = to.at[i]*from.den - from.at[i]*to.den
	}
	return v
}

// nearest returns the square of the minimum distance, over the square of the denominator.
func (v between) nearest() square {
	var s square
	for _, x := range v.at {
		s = s.plus(squareOf(max(0, number.Size(x)-v.doubt)))
	}
	return s
}

// farthest returns the square of the maximum distance, over the square of the denominator.
func (v between) farthest() square {
	var s square
	for _, x := range v.at {
		s = s.plus(squareOf(number.Size(x) + v.doubt))
	}
	return s
}

// squareOver returns the square of a whole distance, over the square of the denominator.
func (v between) squareOver(distance int) square {
	return squareOf(distance * v.den)
}

// distances returns the range of the distances, rounded down and up.
func (v between) distances() api.Range {
	nearest, farthest := v.nearest(), v.farthest()
	beyondNearest := func(d int) bool { return nearest.less(v.squareOver(d)) }
	holdsFarthest := func(d int) bool { return !v.squareOver(d).less(farthest) }
	return api.Range{Lo: least(0, maxDistance, beyondNearest) - 1, Hi: least(0, maxDistance, holdsFarthest)}
}

// DistanceAt returns the range of the distances of two tracks at a time.
func DistanceAt(a, b api.PathTrack, time int) (api.Range, api.Errno) {
	if e := check.First(trackCheck(a), trackCheck(b), timeCheck(time, a, b)); e != api.OK {
		return api.Range{}, e
	}
	return vectorBetween(a, b, [2]int{time, time}).distances(), api.OK
}

// ChangeOf returns the range of the change of the distance of two tracks from times[0] to times[1].
func ChangeOf(a, b api.PathTrack, times [2]int) (api.Range, api.Errno) {
	e := check.First(
		trackCheck(a), trackCheck(b), timeCheck(times[0], a, b), timeCheck(times[1], a, b),
		check.Require(api.ErrOrder, func() bool { return times[0] <= times[1] }),
	)
	if e != api.OK {
		return api.Range{}, e
	}
	before := vectorBetween(a, b, [2]int{times[0], times[0]}).distances()
	after := vectorBetween(a, b, [2]int{times[1], times[1]}).distances()
	return api.Range{Lo: after.Lo - before.Hi, Hi: after.Hi - before.Lo}, api.OK
}
