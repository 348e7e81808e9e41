package ranging

import (
	"iter"

	"cassegrain/api"
)

// form is what is measured or bounded: so many times the distance of a line at 0, and so many times its speed. As these numbers are at most MaxRangingTime, values at most MaxRangingDistance in size, weights at most MaxRangingWeight, and parts of bounds at most MaxPart in size, all sums and products of this package stay below 2^57.
type form struct{ start, speed int }

// distanceAt returns the distance at a time.
func distanceAt(time int) form {
	return form{start: 1, speed: time}
}

// changeIn returns the change of the distance in so many ticks.
func changeIn(ticks int) form {
	return form{speed: ticks}
}

// times returns so many times the form.
func (f form) times(n int) form {
	return form{start: n * f.start, speed: n * f.speed}
}

// across returns a number that is 0 if and only if both forms, which are not 0, are multiples of each other. For any forms f, a and b, f times a.across(b) is a times f.across(b) plus b times a.across(f).
func (f form) across(g form) int {
	return f.start*g.speed - g.start*f.speed
}

// of returns the value of the form for a line, den times.
func (f form) of(x line) int {
	return f.start*x.start + f.speed*x.speed
}

// line is a line with the distance start / den at 0, and the speed speed / den; den is above 0.
type line struct{ start, speed, den int }

// lineOf returns a valid line.
func lineOf(x api.RangingLine) line {
	return line{start: x.Start.Num * x.Speed.Den, speed: x.Speed.Num * x.Start.Den, den: x.Start.Den * x.Speed.Den}
}

// edge is all lines for which a form has a value.
type edge struct {
	form
	value int
}

// edgesOf returns the edges of measurements, and two more ones, by which at least one is crossed even if all others are parallel, or there are none.
func edgesOf(l []measurement) []edge {
	edges := []edge{{form: distanceAt(0)}, {form: changeIn(1)}}
	for _, m := range l {
		for _, end := range [2]int{m.Value.Lo, m.Value.Hi} {
			edges = append(edges, edge{form: m.form, value: end})
		}
	}
	return edges
}

// crossing returns the line that two edges have in common, if there is only one.
func (a edge) crossing(b edge) (line, bool) {
	x := line{start: a.value*b.speed - b.value*a.speed, speed: a.start*b.value - b.start*a.value, den: a.across(b.form)}
	if x.den < 0 {
		x = line{start: -x.start, speed: -x.speed, den: -x.den}
	}
	return x, x.den > 0
}

// vertices yields possible lines of measurements, some of them repeatedly: all corners of the convex set of possible lines, and, for sets without corners, lines on all edges of a strip, or one of all lines. So if any line is possible, one is yielded; and if a form is bounded, its minimum and its maximum are among its values for the lines that are yielded.
func vertices(l []measurement) iter.Seq[line] {
	return func(yield func(line) bool) {
		edges := edgesOf(l)
		for i, a := range edges {
		others:
			for _, b := range edges[:i] {
				x, ok := a.crossing(b)
				if !ok {
					continue
				}
				for _, m := range l {
					if m.residual(x) > 0 {
						continue others
					}
				}
				if !yield(x) {
					return
				}
			}
		}
	}
}
