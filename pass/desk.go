package pass

import (
	"strconv"
	"strings"

	"cassegrain/api"
	"cassegrain/frame"
	"cassegrain/number"
)

// The numbers of questions.
const (
	distanceDigits = 4
	channelDigits  = 1
)

// Answer returns the answer to a question about a log.
func Answer(l []api.PassEntry, line string) (string, api.Errno) {
	return ask(l, func(r *record) (string, api.Errno) { return r.answer(line) })
}

func (r *record) answer(line string) (string, api.Errno) {
	switch line {
	case "count":
		return strconv.Itoa(len(r.entries)), api.OK
	case "lock":
		return said(formatLock)(r.replay())
	case "done":
		return said(formatDone)(r.link())
	}
	word, rest, _ := strings.Cut(line, " ")
	distance, isDistance := number.ReadNatural(rest, distanceDigits)
	channel, isChannel := number.ReadNatural(rest, channelDigits)
	switch {
	case strings.HasPrefix(line, "role "):
		return said(strconv.Itoa)(r.roleOf(rest))
	case word == "distance" && isDistance:
		return said(formatDistance)(r.distanceAt(distance))
	case word == "packets" && isChannel:
		return said(formatPackets)(r.packetsOf(channel))
	}
	return "", api.ErrSyntax
}

// said returns what gives a result as a string, unless there is an error.
func said[T any](format func(T) string) func(T, api.Errno) (string, api.Errno) {
	return func(result T, e api.Errno) (string, api.Errno) {
		if e != api.OK {
			return "", e
		}
		return format(result), api.OK
	}
}

func formatLock(x api.PassReport) string {
	return number.Join(x.Used, x.Locked, x.First)
}

func formatDone(s api.CommandState) string {
	times := make([]int, len(s.Done))
	for i, d := range s.Done {
		times[i] = d.At
	}
	return number.Join(times...)
}

func formatDistance(ends [2]api.Frac) string {
	words := [len(ends)]string{}
	for i, f := range ends {
		words[i] = strconv.Itoa(f.Num) + "/" + strconv.Itoa(f.Den)
	}
	return strings.Join(words[:], " ")
}

func formatPackets(packets []api.FramePacket) string {
	words := make([]string, len(packets))
	for i, p := range packets {
		words[i] = frame.FormatPacket(p)
	}
	return strings.Join(words, ",")
}
