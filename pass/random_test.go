package pass_test

import (
	"fmt"
	"math/rand"
	"strings"

	"cassegrain/api"
	"cassegrain/command"
	"cassegrain/frame"
	"cassegrain/sample"
)

// names returns more names than persons who may have a role.
func names() []string {
	return []string{"ada", "bo", "cy", "di", "ed", "flo", "gus", "hal", "ida", "jo", "kim", "lu-2"}
}

// oneOf returns a random item.
func oneOf[T any](r *rand.Rand, l ...T) T {
	return l[r.Intn(len(l))]
}

// randomLog returns a random valid log, each of whose entries was accepted by definition. About every fourth one that is tried is refused; a function is called with it, too.
func randomLog(r *rand.Rand, tries int, tried func(l []api.PassEntry, e api.PassEntry, errno api.Errno)) []api.PassEntry {
	l := with(nil, "join ada 0 2 ada", "join ada 0 1 bo", "join ada 0 3 cy")
	l = l[:oneOf(r, 0, 1, 3, 3, 3, 3)]
	for range tries {
		if len(l) > 0 && l[len(l)-1].Kind == api.PassEnd && r.Intn(4) == 0 {
			return l
		}
		e := randomEntry(r, l)
		errno := errorByDefinition(l, e)
		if len(l) == 60 {
			errno = api.ErrLarge
		}
		tried(l, e, errno)
		if errno == api.OK {
			l = append(l, e)
		}
	}
	return l
}

// quiet is called with entries that are not of interest.
func quiet([]api.PassEntry, api.PassEntry, api.Errno) {}

// randomEntry returns an entry that is accepted after a valid log more often than not.
func randomEntry(r *rand.Rand, l []api.PassEntry) api.PassEntry {
	e := api.PassEntry{Kind: oneOf(r, api.PassJoin, api.PassSet, api.PassSet, api.PassTake, api.PassTake, api.PassFrame, api.PassFrame,
		api.PassMeasure, api.PassCommand, api.PassCommand, api.PassNote, api.PassNote, api.PassTake, api.PassCommand)}
	if r.Intn(40) == 0 {
		e.Kind = oneOf(r, -1, 8, api.PassJoin, api.PassEnd)
	}
	if len(l) > 0 {
		e.At = l[len(l)-1].At + oneOf(r, 0, 0, 1, 2)
	}
	e.By = randomMaker(r, l, e)
	e.Text = randomText(r, l, e.Kind)
	if e.Kind == api.PassJoin {
		e.Number = r.Intn(4)
		if e.Text == "ada" && r.Intn(5) > 0 { // otherwise there soon is no engineer any more
			e.Number = api.PassEngineer
		}
	}
	if len(l) == 0 && r.Intn(3) > 0 {
		e = entry("join ada 0 2 ada")
	}
	return spoiled(r, e)
}

// randomMaker returns somebody who may make an entry, if there is one, or anybody.
func randomMaker(r *rand.Rand, l []api.PassEntry, e api.PassEntry) string {
	for range 20 {
		e.By = oneOf(r, names()...)
		if mayMakeByDefinition(l, e) {
			return e.By
		}
	}
	return oneOf(r, names()...)
}

// spoiled sometimes spoils a part of an entry.
func spoiled(r *rand.Rand, e api.PassEntry) api.PassEntry {
	switch r.Intn(60) {
	case 0:
		e.By = oneOf(r, "", "9a", "a b", "eve", "vi")
	case 1:
		e.At = oneOf(r, -1, 0, e.At-1, api.MaxTick+1)
	case 2:
		e.Number = oneOf(r, -1, 1, 4)
	case 3:
		e.Text = oneOf(r, strings.Repeat("x", 800), strings.Repeat("x", 801), "a\nb", "\x7f", "\x1f", "caf\u00e9", "", " ", "x")
	case 4:
		e.Text += oneOf(r, " ", "0", "x", "|", "\t")
	case 5:
		if e.Text != "" {
			i := r.Intn(len(e.Text))
			e.Text = e.Text[:i] + oneOf(r, "", "9", " ", "-", "z") + e.Text[i+1:]
		}
	}
	return e
}

// randomText returns a text of an entry of a kind after a valid log.
func randomText(r *rand.Rand, l []api.PassEntry, kind int) string {
	switch kind {
	case api.PassJoin:
		return oneOf(r, names()...)
	case api.PassSet:
		return randomSetting(r)
	case api.PassTake:
		return sample.FormatPacket(randomPacket(r))
	case api.PassFrame:
		return randomFrame(r, l)
	case api.PassMeasure:
		return randomMeasurement(r)
	case api.PassCommand:
		return randomEvent(r, l)
	case api.PassNote:
		return oneOf(r, "", " ", "hello", "a note with blanks ", "~!\"#$%&'()*+,-./", "0 0", strings.Repeat("y", 800))
	}
	return ""
}

func randomSetting(r *rand.Rand) string {
	switch r.Intn(4) {
	case 0:
		return fmt.Sprintf("loop %d %d %d %d", r.Intn(20), r.Intn(5), between(r, 1, 20), between(r, -60, 60))
	case 1:
		window := between(r, 1, 6)
		return fmt.Sprintf("lock %d %d %d", r.Intn(800), window, between(r, 1, window))
	case 2:
		return fmt.Sprintf("frames %d %d", between(r, 4, 8), between(r, 1, 4))
	}
	return fmt.Sprintf("uplink %s|%s|%d %d", exampleModel, oneOf(r, exampleFile, "3 0 9", "0 0 50,3 0 60,3 1 1000"), between(r, 1, 6), between(r, 1, 6))
}

// randomPacket returns a packet that often has the counter, but seldom other samples, of another one.
func randomPacket(r *rand.Rand) api.SamplePacket {
	p := api.SamplePacket{Counter: oneOf(r, 0, 1, 2, 3, 4, 5, 6, 7, 8, 9, 10, 11, 12, 13, 14, 15, 1023, 1022, 39), Gain: 1}
	for i := range p.Samples {
		p.Samples[i] = api.Gauss{Re: (p.Counter*i)%7 - 3, Im: (p.Counter+i)%5 - 2}
	}
	if r.Intn(12) == 0 {
		p.Gain = 2
	}
	return p
}

// randomFrame returns the string of the next frame of one of two series of frames, or of any frame.
func randomFrame(r *rand.Rand, l []api.PassEntry) string {
	rules := api.FrameRules{Length: 4, Channels: 1}
	if s, ok := inForceByDefinition(l, "frames"); ok {
		rules = rulesByDefinition(s)
	}
	packets := []api.FramePacket{{Identity: 1, Data: []int{1, 2, 3}}, {Identity: 2, Count: 7}, {Identity: 255, Data: []int{4}}, {Identity: 3, Data: make([]int, 40)}, {Identity: 4, Data: []int{5}}}
	frames, _ := frame.Packed(rules, api.FrameStart{Channel: r.Intn(rules.Channels), Count: 60}, packets)
	next := countOf(l, api.PassFrame)
	if r.Intn(4) == 0 {
		next += between(r, -1, 2)
	}
	return frame.FormatFrame(frames[max(0, next)%len(frames)])
}

func randomMeasurement(r *rand.Rand) string {
	time := between(r, 0, 20)
	distance := 100 + 3*time
	if r.Intn(4) == 0 {
		return fmt.Sprintf("from %d %d %d %d", time, time+5, 15-between(r, 0, 9), 15+between(r, 0, 9))
	}
	return fmt.Sprintf("at %d %d %d", time, distance-between(r, 0, 9), distance+between(r, -1, 9))
}

// randomEvent returns the string of an event that is possible, or of any event.
func randomEvent(r *rand.Rand, l []api.PassEntry) string {
	e := api.CommandEvent{Kind: r.Intn(9), Number: r.Intn(3)}
	u, state, errno := linkByDefinition(l)
	if errno == api.OK && r.Intn(8) > 0 {
		possible, _ := command.Possible(u, state)
		if r.Intn(3) == 0 {
			return fmt.Sprint("send ", len(state.Done))
		}
		e = oneOf(r, append(possible, api.CommandEvent{Kind: api.CommandPass, Number: between(r, 1, 30)})...)
	}
	return command.FormatEvent(e)
}
