package path

import (
	"slices"
	"strconv"
	"strings"

	"cassegrain/api"
	"cassegrain/check"
	"cassegrain/number"
)

// The maximum numbers of digits in the string of a track.
const (
	timeDigits       = 13
	coordinateDigits = 7
)

// triple is the three components of a position or a vector.
type triple [3]int

// components returns the components of a vector; a position is converted to the vector from the origin.
func components(v api.Vector) triple {
	return triple{v.X, v.Y, v.Z}
}

// exceeds says whether a component is greater in size than the limit.
func (t triple) exceeds(limit int) bool {
	return slices.ContainsFunc(t[:], func(x int) bool { return !number.Within(x, -limit, limit) })
}

// place is a position with whole numbers over a common denominator.
type place struct {
	at  triple
	den int
}

// CheckTrack checks a track, and returns the index of the knot that an error concerns.
func CheckTrack(p api.PathTrack) (int, api.Errno) {
	if len(p.Knots) == 0 {
		return 0, api.ErrShape
	}
	if len(p.Knots) > api.MaxPathKnots {
		return 0, api.ErrLarge
	}
	if i, e := check.Indexed(p.Knots, func(i int, _ api.PathKnot) api.Errno { return checkKnot(p.Knots, i) }); e != api.OK {
		return i, e
	}
	if !number.Within(p.Doubt, 0, api.MaxPathDoubt) {
		return 0, api.ErrRange
	}
	return 0, api.OK
}

// checkKnot checks the knot with the index i, and its piece from the knot before, which is valid.
func checkKnot(knots []api.PathKnot, i int) api.Errno {
	knot := knots[i]
	at := components(api.Vector(knot.Position))
	if !number.Within(knot.Time, 0, api.MaxTick) || at.exceeds(api.MaxPathPosition) {
		return api.ErrRange
	}
	if i == 0 {
		return api.OK
	}
	before := knots[i-1]
	elapsed := knot.Time - before.Time
	if elapsed <= 0 {
		return api.ErrOrder
	}
	if elapsed > api.MaxPathPiece {
		return api.ErrGap
	}
	var doubled square // of twice the distance
	for j, x := range components(api.Vector(before.Position)) {
		doubled = doubled.plus(squareOf(2 * (at[j] - x)))
	}
	if squareOf(elapsed).less(doubled) {
		return api.ErrBreak
	}
	return api.OK
}

// trackCheck is the check of a track.
func trackCheck(p api.PathTrack) func() api.Errno {
	return func() api.Errno {
		_, e := CheckTrack(p)
		return e
	}
}

// timeCheck is the check that a time is one of each of these valid tracks.
func timeCheck(time int, tracks ...api.PathTrack) func() api.Errno {
	return check.Require(api.ErrRange, func() bool {
		return !slices.ContainsFunc(tracks, func(p api.PathTrack) bool {
			return !number.Within(time, firstTime(p), lastTime(p))
		})
	})
}

func firstTime(p api.PathTrack) int {
	return p.Knots[0].Time
}

func lastTime(p api.PathTrack) int {
	return p.Knots[len(p.Knots)-1].Time
}

// placeAt returns the point of a valid track at one of its times.
func placeAt(p api.PathTrack, time int) place {
	i := slices.IndexFunc(p.Knots, func(k api.PathKnot) bool { return k.Time >= time })
	after := p.Knots[i]
	to := components(api.Vector(after.Position))
	if after.Time == time {
		return place{at: to, den: 1}
	}
	before := p.Knots[i-1]
	x := place{at: components(api.Vector(before.Position)), den: after.Time - before.Time}
	for j := range x.at {
		x.at[j] = x.at[j]*(after.Time-time) + to[j]*(time-before.Time)
	}
	return x
}

// BoxAt returns the box of the true positions at a time, rounded down and up.
func BoxAt(p api.PathTrack, time int) (api.PathBox, api.Errno) {
	if e := check.First(trackCheck(p), timeCheck(time, p)); e != api.OK {
		return api.PathBox{}, e
	}
	x := placeAt(p, time)
	side := func(i int) api.Range {
		return api.Range{Lo: number.Floor(x.at[i], x.den) - p.Doubt, Hi: number.Ceiling(x.at[i], x.den) + p.Doubt}
	}
	return api.PathBox{X: side(0), Y: side(1), Z: side(2)}, api.OK
}

// FormatTrack returns the string of a track.
func FormatTrack(p api.PathTrack) string {
	var b strings.Builder
	b.WriteString(strconv.Itoa(p.Doubt))
	for _, k := range p.Knots {
		b.WriteString(";" + strconv.Itoa(k.Time))
		for _, x := range components(api.Vector(k.Position)) {
			b.WriteString(" " + strconv.Itoa(x))
		}
	}
	return b.String()
}

// ParseTrack returns the track with this string.
func ParseTrack(s string) (api.PathTrack, api.Errno) {
	if len(s) > api.MaxString {
		return api.PathTrack{}, api.ErrLarge
	}
	p, ok := readTrack(s)
	if !ok {
		return api.PathTrack{}, api.ErrSyntax
	}
	if _, e := CheckTrack(p); e != api.OK {
		return api.PathTrack{}, e
	}
	return p, api.OK
}

// readTrack reads the string of a track, which need not be valid.
func readTrack(s string) (api.PathTrack, bool) {
	parts := strings.Split(s, ";")
	doubt, ok := number.ReadNatural(parts[0], timeDigits)
	if !ok {
		return api.PathTrack{}, false
	}
	p := api.PathTrack{Doubt: doubt}
	for _, part := range parts[1:] {
		knot, ok := readKnot(part)
		if !ok {
			return api.PathTrack{}, false
		}
		p.Knots = append(p.Knots, knot)
	}
	return p, true
}

func readKnot(s string) (api.PathKnot, bool) {
	var at triple
	words := strings.Split(s, " ")
	if len(words) != 1+len(at) {
		return api.PathKnot{}, false
	}
	time, ok := number.ReadNatural(words[0], timeDigits)
	for i := range at {
		x, fine := number.ReadWhole(words[1+i], coordinateDigits)
		at[i] = x
		ok = ok && fine
	}
	return api.PathKnot{Time: time, Position: api.Point{X: at[0], Y: at[1], Z: at[2]}}, ok
}
