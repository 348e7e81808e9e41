package path

import (
	"cassegrain/api"
	"cassegrain/check"
	"cassegrain/number"
)

// CheckSite checks a site, and returns the index of the cone that an error concerns.
func CheckSite(s api.PathSite) (int, api.Errno) {
	if e := checkAxis(s.Up); e != api.OK {
		return 0, e
	}
	if len(s.Cones) > api.MaxPathCones {
		return 0, api.ErrLarge
	}
	for i, c := range s.Cones {
		if e := checkCone(c); e != api.OK {
			return i, e
		}
	}
	return 0, api.OK
}

func checkCone(c api.PathCone) api.Errno {
	if e := checkAxis(c.Axis); e != api.OK {
		return e
	}
	if !number.Within(c.Den, 1, api.MaxPathPart) || !number.Within(c.Num, 0, c.Den) {
		return api.ErrRange
	}
	return api.OK
}

func checkAxis(v api.Vector) api.Errno {
	if components(v).exceeds(api.MaxPathAxis) {
		return api.ErrRange
	}
	if v == (api.Vector{}) {
		return api.ErrZero
	}
	return api.OK
}

// viewCheck is the check of a view.
func viewCheck(v api.PathView) func() api.Errno {
	site := func() api.Errno {
		_, e := CheckSite(v.Site)
		return e
	}
	return func() api.Errno { return check.First(site, trackCheck(v.Station), trackCheck(v.Probe)) }
}

// along returns the enclosure of the product with an axis, over the denominator.
func (v between) along(axis triple) api.Range {
	product, doubt := 0, 0
	for i, x := range axis {
		product += x * v.at[i]
		doubt += number.Size(x) * v.doubt
	}
	return api.Range{Lo: product - doubt, Hi: product + doubt}
}

// hides says whether a vector with this product with the axis and this square of its length lies in the cone, both over the same denominator.
func hides(c api.PathCone, product int, length square) bool {
	axis := 0
	for _, x := range components(c.Axis) {
		axis += x * x
	}
	return product > 0 && length.times(c.Num*axis).less(squareOf(product).times(c.Den))
}

// answerAt returns the answer of a valid view at one of its times.
func answerAt(v api.PathView, time int) int {
	x := vectorBetween(v.Station, v.Probe, [2]int{time, time})
	height := x.along(components(v.Site.Up))
	surelyNot, surely := height.Hi < 0, height.Lo >= 0
	for _, c := range v.Site.Cones {
		q := x.along(components(c.Axis))
		surelyNot = surelyNot || hides(c, q.Lo, x.farthest())
		surely = surely && !hides(c, q.Hi, x.nearest())
	}
	if surelyNot {
		return api.AnswerNo
	}
	if surely {
		return api.AnswerYes
	}
	return api.AnswerMaybe
}

// VisibleAt answers whether the station sees the probe at a time.
func VisibleAt(v api.PathView, time int) (int, api.Errno) {
	if e := check.First(viewCheck(v), timeCheck(time, v.Station, v.Probe)); e != api.OK {
		return 0, e
	}
	return answerAt(v, time), api.OK
}

// Windows returns the maximal ranges of neighbouring times of a grid with the same answer.
func Windows(v api.PathView, g api.PathGrid) ([]api.PathWindow, api.Errno) {
	timeAt := func(i int) int { return g.From + i*g.Step }
	e := check.First(
		viewCheck(v),
		check.Require(api.ErrRange, func() bool {
			return number.Within(g.Step, 1, api.MaxPathPiece) && number.Within(g.Count, 1, api.MaxPathGrid)
		}),
		timeCheck(timeAt(0), v.Station, v.Probe),
		timeCheck(timeAt(g.Count-1), v.Station, v.Probe),
	)
	if e != api.OK {
		return nil, e
	}
	var l []api.PathWindow
	for i := range g.Count {
		answer := answerAt(v, timeAt(i))
		if len(l) == 0 || l[len(l)-1].Answer != answer {
			l = append(l, api.PathWindow{Answer: answer, First: i})
		}
		l[len(l)-1].Last = i
	}
	return l, api.OK
}
