package frame

import (
	"cmp"
	"iter"
	"slices"

	"cassegrain/api"
	"cassegrain/number"
)

// line is a line through a time at a count: the time increases by rise in run counts. As times are at most MaxTick, and counts MaxFrameCount, all products stay below 2^61.
type line struct {
	count, time int
	rise, run   int
}

// timesRun returns the time at a count, run times.
func (x line) timesRun(count int) int {
	return x.time*x.run + x.rise*(count-x.count)
}

// contains says whether the line goes through a pair.
func (x line) contains(p api.FramePair) bool {
	return number.Within(x.timesRun(p.Count), p.Time.Lo*x.run, p.Time.Hi*x.run)
}

// containsAll says whether the line goes through all pairs.
func (x line) containsAll(l []api.FramePair) bool {
	return !slices.ContainsFunc(l, func(p api.FramePair) bool { return !x.contains(p) })
}

// compareRates compares the rates of two lines.
func compareRates(x, y line) int {
	return cmp.Compare(x.rise*y.run, y.rise*x.run)
}

// linesBetween returns the lines from an end of a pair to an end of a later one.
func linesBetween(a, b api.FramePair) []line {
	var lines []line
	for _, from := range [2]int{a.Time.Lo, a.Time.Hi} {
		for _, to := range [2]int{b.Time.Lo, b.Time.Hi} {
			lines = append(lines, line{count: a.Count, time: from, rise: to - from, run: b.Count - a.Count})
		}
	}
	return lines
}

// linesThrough yields the lines through pairs that have an end of two of them, some of them repeatedly. The lines through two or more pairs are a bounded convex set, whose corners these are: if there is a line, one of these is one, and each rate, and each time at a count, lies between those of two of them.
func linesThrough(l []api.FramePair) iter.Seq[line] {
	return func(yield func(line) bool) {
		for i, a := range l {
			for _, b := range l[i+1:] {
				for _, x := range linesBetween(a, b) {
					if x.containsAll(l) && !yield(x) {
						return
					}
				}
			}
		}
	}
}

// haveLine says whether there is a line through pairs.
func haveLine(l []api.FramePair) bool {
	for range linesThrough(l) {
		return true
	}
	return len(l) <= 1
}
