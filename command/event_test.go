package command_test

import (
	"math"
	"testing"

	"cassegrain/api"
	"cassegrain/command"
)

// numbersOf returns the range of the numbers of events of a kind.
func numbersOf(kind int) api.Range {
	switch kind {
	case api.CommandPass:
		return api.Range{Lo: 1, Hi: 1000000000000}
	case api.CommandSend:
		return api.Range{Lo: 0, Hi: 11}
	case api.CommandRestart, api.CommandReboot:
		return api.Range{}
	}
	return api.Range{Lo: 0, Hi: 5}
}

// badEvent is an event that is not valid, and its error.
type badEvent struct {
	event api.CommandEvent
	want  api.Errno
}

// badEvents returns events that are not valid.
func badEvents() []badEvent {
	var l []badEvent
	for _, kind := range []int{math.MinInt, -1, 9, 10, math.MaxInt} {
		for _, n := range []int{0, 1, -1, 13} {
			l = append(l, badEvent{api.CommandEvent{Kind: kind, Number: n}, api.ErrKind})
		}
	}
	for kind := range api.CommandEvents {
		want := api.ErrRange
		if kind == api.CommandRestart || kind == api.CommandReboot {
			want = api.ErrForm
		}
		numbers := numbersOf(kind)
		for _, n := range badNumbers(numbers.Lo, numbers.Hi) {
			l = append(l, badEvent{api.CommandEvent{Kind: kind, Number: n}, want})
		}
	}
	return l
}

// P8.4: events within the limits, and the errors of others.
func TestCheckEvent(t *testing.T) {
	for kind := range api.CommandEvents {
		numbers := numbersOf(kind)
		for _, n := range []int{numbers.Lo, (numbers.Lo + numbers.Hi) / 2, numbers.Hi} {
			e := api.CommandEvent{Kind: kind, Number: n}
			wantError(t, e, command.CheckEvent(e), api.OK)
		}
	}
	for _, c := range badEvents() {
		wantError(t, c, command.CheckEvent(c.event), c.want)
	}
}
