package ranging

import (
	"cmp"
	"iter"
	"slices"

	"cassegrain/api"
	"cassegrain/check"
	"cassegrain/number"
)

// inequality says that a form is at most a limit.
type inequality struct {
	form
	limit int
}

// signed returns a number for an upper bound, and minus it for a lower one.
func signed(n int, upper bool) int {
	if upper {
		return n
	}
	return -n
}

// sumOf returns the sum of a proof with valid terms.
func sumOf(l []measurement, p api.RangingProof) inequality {
	var sum inequality
	for _, t := range p.Terms {
		m := l[t.Index]
		end := m.Value.Lo
		if t.Upper {
			end = m.Value.Hi
		}
		weight := signed(t.Weight, t.Upper)
		sum.start += weight * m.start
		sum.speed += weight * m.speed
		sum.limit += weight * end
	}
	return sum
}

// proves says whether the valid proof of a claim proves its bound.
func proves(l []measurement, c api.RangingClaim) bool {
	sum := sumOf(l, c.Proof)
	scale := signed(c.Proof.Scale, c.Question.Upper)
	// As the limit is whole, it is compared with the bound rounded down: both times Den would be too large.
	return sum.form == distanceAt(c.Question.Time).times(scale) && sum.limit <= number.Floor(scale*c.Bound.Num, c.Bound.Den)
}

// CheckProof accepts a proof of a bound.
func CheckProof(l []api.RangingMeasurement, c api.RangingClaim) api.Errno {
	return check.First(
		measurementsCheck(l),
		timeCheck(c.Question.Time),
		check.Require(api.ErrForm, func() bool { return number.IsLowest(c.Bound) }),
		check.Range(c.Bound.Num, -api.MaxPart, api.MaxPart),
		check.Range(c.Bound.Den, 1, api.MaxPart),
		check.Range(c.Proof.Scale, 1, api.MaxRangingWeight),
		check.AtMost(api.MaxRangingTerms, c.Proof.Terms, func(t api.RangingTerm) api.Errno {
			return check.First(
				check.Require(api.ErrMissing, func() bool { return number.Within(t.Index, 0, len(l)-1) }),
				check.Range(t.Weight, 1, api.MaxRangingWeight),
			)
		}),
		check.Require(api.ErrProof, func() bool { return proves(measurementsOf(l), c) }),
	)
}

// share is a measurement, and how often it is added to answer a question, which may be below 0.
type share struct{ index, times int }

// proofOf returns the proof with these shares of a scale that is not 0, with numbers as small as possible. Shares that are 0 are left out.
func proofOf(scale int, upper bool, shares [2]share) api.RangingProof {
	divisor := number.Size(scale)
	for _, s := range shares {
		divisor = number.CommonDivisor(divisor, number.Size(s.times))
	}
	if scale < 0 {
		divisor = -divisor
	}
	p := api.RangingProof{Scale: scale / divisor}
	for _, s := range shares {
		if times := signed(s.times/divisor, upper); times != 0 {
			p.Terms = append(p.Terms, api.RangingTerm{Index: s.index, Upper: times > 0, Weight: number.Size(times)})
		}
	}
	return p
}

// proofs yields the proofs that one measurement, or two that measure different things, give for a question. If the question has an answer, one of them proves it: by the duality of linear inequalities there is a proof of it, and one that needs no more terms than a line has numbers.
func proofs(l []measurement, q api.RangingQuestion) iter.Seq[api.RangingProof] {
	asked := distanceAt(q.Time)
	return func(yield func(api.RangingProof) bool) {
		for i, a := range l {
			if a.form == asked && !yield(proofOf(1, q.Upper, [2]share{{index: i, times: 1}})) {
				return
			}
			for j, b := range l[:i] {
				scale := a.across(b.form)
				shares := [2]share{{index: i, times: asked.across(b.form)}, {index: j, times: a.across(asked)}}
				if scale != 0 && !yield(proofOf(scale, q.Upper, shares)) {
					return
				}
			}
		}
	}
}

// FindProof returns a proof of the maximum distance at a time, or of the minimum.
func FindProof(l []api.RangingMeasurement, q api.RangingQuestion) (api.RangingProof, api.Errno) {
	if _, e := DistanceIn(l, q.Time); e != api.OK { // each measurement has both limits, so that a distance has a maximum exactly if it has a minimum
		return api.RangingProof{}, e
	}
	checked := measurementsOf(l)
	strictest := func(a, b api.RangingProof) int {
		return cmp.Compare(sumOf(checked, a).limit*b.Scale, sumOf(checked, b).limit*a.Scale)
	}
	return slices.MinFunc(slices.Collect(proofs(checked, q)), strictest), api.OK
}
