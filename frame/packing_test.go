package frame_test

import (
	"math/rand"
	"slices"
	"testing"

	"cassegrain/api"
	"cassegrain/frame"
)

// badPacket is a packet that is not valid, and its error.
type badPacket struct {
	value api.FramePacket
	want  api.Errno
}

// badPackets returns packets that are not valid, some of them for several reasons.
func badPackets() []badPacket {
	var l []badPacket
	add := func(e api.Errno, p api.FramePacket) { l = append(l, badPacket{p, e}) }
	for _, n := range badNumbers(0, 255) {
		add(api.ErrRange, newPacket(n, 0))
		add(api.ErrRange, newPacket(n, 0, make([]int, 41)...))
		add(api.ErrRange, newPacket(0, n))
		add(api.ErrRange, newPacket(255, n, make([]int, 41)...))
		add(api.ErrRange, newPacket(0, 0, n))
		add(api.ErrRange, newPacket(0, 0, append(make([]int, 39), n)...))
		add(api.ErrLarge, newPacket(0, 0, repeated(n, 41)...))
	}
	add(api.ErrLarge, newPacket(255, 255, make([]int, 41)...))
	add(api.ErrLarge, newPacket(0, 0, make([]int, 5000)...))
	return l
}

// P6.3: packets within the limits, and the errors of others.
func TestCheckPacket(t *testing.T) {
	for _, p := range []api.FramePacket{
		newPacket(0, 0), newPacket(255, 255), newPacket(9, 0, 0, 255), newPacket(9, 1, repeated(255, 40)...), {},
	} {
		wantError(t, p, frame.CheckPacket(p), api.OK)
	}
	for _, c := range badPackets() {
		wantError(t, c.value, frame.CheckPacket(c.value), c.want)
	}
}

// packing is packets, the frames with them under the examples' rules, and which case they are.
type packing struct {
	name    string
	packets []api.FramePacket
	frames  []api.FrameFrame
}

// examplePackings returns examples 2 to 4, and edge cases: from the count 62 on, in the channel 1.
func examplePackings() []packing {
	return []packing{
		{"nothing", nil, nil},
		{"example 2", []api.FramePacket{newPacket(9, 0, 1, 2), newPacket(9, 1, 3)},
			[]api.FrameFrame{newFrame(1, 62, 0, 9, 0, 2, 1), newFrame(1, 63, 1, 2, 9, 1, 1), newFrame(1, 0, 1, 3, 255, 0, 0)}},
		{"example 3", []api.FramePacket{newPacket(9, 0, 1, 2), newPacket(9, 1, 3), newPacket(9, 2)},
			[]api.FrameFrame{newFrame(1, 62, 0, 9, 0, 2, 1), newFrame(1, 63, 1, 2, 9, 1, 1), newFrame(1, 0, 1, 3, 9, 2, 0)}},
		{"example 4", []api.FramePacket{newPacket(9, 0, 1, 2), newPacket(9, 1, 3, 4)},
			[]api.FrameFrame{newFrame(1, 62, 0, 9, 0, 2, 1), newFrame(1, 63, 1, 2, 9, 1, 2), newFrame(1, 0, 2, 3, 4, 255, 0), newFrame(1, 1, 255, 3, 0, 0, 0)}},
		{"a packet without bytes: one byte remains", []api.FramePacket{newPacket(7, 255)},
			[]api.FrameFrame{newFrame(1, 62, 0, 7, 255, 0, 255), newFrame(1, 63, 255, 0, 2, 0, 0)}},
		{"a full field", []api.FramePacket{newPacket(7, 1, 200)}, []api.FrameFrame{newFrame(1, 62, 0, 7, 1, 1, 200)}},
		{"an idle packet in the middle", []api.FramePacket{newPacket(1, 2, 3), newPacket(255, 8, 5), newPacket(1, 3, 4)},
			[]api.FrameFrame{newFrame(1, 62, 0, 1, 2, 1, 3), newFrame(1, 63, 0, 255, 8, 1, 5), newFrame(1, 0, 0, 1, 3, 1, 4)}},
		{"two packets in a field after a long one", []api.FramePacket{newPacket(1, 0, 0, 0, 0, 0, 0, 0), newPacket(2, 0)},
			[]api.FrameFrame{newFrame(1, 62, 0, 1, 0, 6, 0), newFrame(1, 63, 255, 0, 0, 0, 0), newFrame(1, 0, 1, 0, 2, 0, 0)}},
	}
}

// P6.3: the examples and the edge cases.
func TestPackedExamples(t *testing.T) {
	for _, c := range examplePackings() {
		n, e := frame.FramesFor(exampleRules(), c.packets)
		wantNumber(t, c.name, n, e, len(c.frames))
		got, e := frame.Packed(exampleRules(), api.FrameStart{Channel: 1, Count: 62}, c.packets)
		wantFrames(t, c.name, got, e, c.frames)
	}
}

// P6.3: a longer data field may have several packets, the first one of which counts, and longer filling.
func TestPackedSeveralInAField(t *testing.T) {
	packets := []api.FramePacket{newPacket(1, 0), newPacket(2, 0, 9), newPacket(3, 0)}
	for length, want := range map[int][]api.FrameFrame{
		10: {newFrame(0, 0, 0, 1, 0, 0, 2, 0, 1, 9, 3, 0, 0)},
		11: {newFrame(0, 0, 0, 1, 0, 0, 2, 0, 1, 9, 3, 0, 0, 255), newFrame(0, 1, 255, 0, 9, 0, 0, 0, 0, 0, 0, 0, 0, 0)},
		12: {newFrame(0, 0, 0, 1, 0, 0, 2, 0, 1, 9, 3, 0, 0, 255, 0), newFrame(0, 1, 255, 11, 0, 0, 0, 0, 0, 0, 0, 0, 0, 0, 0)},
		13: {newFrame(0, 0, 0, 1, 0, 0, 2, 0, 1, 9, 3, 0, 0, 255, 0, 0)},
		15: {newFrame(0, 0, 0, 1, 0, 0, 2, 0, 1, 9, 3, 0, 0, 255, 0, 2, 0, 0)},
	} {
		got, e := frame.Packed(rules(length, 1), api.FrameStart{}, packets)
		wantFrames(t, length, got, e, want)
	}
}

// P6.3, P6.10: packets by the definition, with all lengths of filling; there are as many frames as FramesFor returns.
func TestPackedByDefinition(t *testing.T) {
	r := rand.New(rand.NewSource(5))
	for range 3000 {
		x := randomRules(r)
		start := api.FrameStart{Channel: r.Intn(x.Channels), Count: r.Intn(64)}
		packets := randomPackets(r, r.Intn(21), r.Intn(41))
		before := clonePackets(packets)
		want := packedByDefinition(x, start, packets)
		n, e := frame.FramesFor(x, packets)
		wantNumber(t, packets, n, e, len(want))
		got, e := frame.Packed(x, start, packets)
		if len(want) > 40 {
			wantNothing(t, packets, len(got), e, api.ErrLarge)
			continue
		}
		wantFrames(t, packets, got, e, want)
		for _, f := range got {
			wantError(t, f, frame.CheckFrame(x, f), api.OK)
		}
		wantSeparate(t, packets, dataOf(got))
		wantPackets(t, "the packets", packets, api.OK, before)
	}
}

// P6.3: 40 frames, and one more, with filling and without.
func TestPackedLimit(t *testing.T) {
	full := repeated(newPacket(1, 0, make([]int, 5)...), 20) // two frames each
	got, e := frame.Packed(exampleRules(), api.FrameStart{}, full)
	wantFrames(t, "40 frames", got, e, packedByDefinition(exampleRules(), api.FrameStart{}, full))
	if len(got) != 40 {
		t.Error(len(got))
	}
	for _, size := range []int{6, 7, 8, 9, 40} { // by filling, by filling over two fields, by a full field, and more
		l := with(full, 19, newPacket(1, 0, make([]int, size)...))
		got, e = frame.Packed(exampleRules(), api.FrameStart{}, l)
		wantNothing(t, size, len(got), e, api.ErrLarge)
		n, e := frame.FramesFor(exampleRules(), l)
		wantNumber(t, size, n, e, len(packedByDefinition(exampleRules(), api.FrameStart{}, l)))
	}
	n, e := frame.FramesFor(exampleRules(), repeated(newPacket(0, 0, make([]int, 40)...), 20))
	wantNumber(t, "the most", n, e, 215)
}

// P6.3: the errors of FramesFor and Packed, in their order.
func TestPackedErrors(t *testing.T) {
	good := []api.FramePacket{newPacket(9, 0, 1, 2)}
	large := repeated(newPacket(0, 0, make([]int, 40)...), 20)
	start := func(channel, count int) api.FrameStart { return api.FrameStart{Channel: channel, Count: count} }
	fails := func(x api.FrameRules, s api.FrameStart, l []api.FramePacket, want api.Errno) {
		t.Helper()
		got, e := frame.Packed(x, s, l)
		wantNothing(t, []any{x, s, len(l)}, len(got), e, want)
	}
	unpackable := func(x api.FrameRules, l []api.FramePacket, want api.Errno) {
		t.Helper()
		n, e := frame.FramesFor(x, l)
		wantNothing(t, []any{x, len(l)}, n, e, want)
		fails(x, start(0, 0), l, want)
	}
	for _, x := range badRules() {
		unpackable(x, good, api.ErrRange)
		unpackable(x, repeated(newPacket(-1, 0), 21), api.ErrRange)
		fails(x, start(-1, -1), good, api.ErrRange)
	}
	for _, n := range badNumbers(0, 1) {
		fails(exampleRules(), start(n, 0), good, api.ErrMissing)
		fails(exampleRules(), start(n, 64), repeated(newPacket(-1, 0), 21), api.ErrMissing)
		fails(exampleRules(), start(n, 0), nil, api.ErrMissing)
	}
	for _, n := range badNumbers(0, 63) {
		fails(exampleRules(), start(1, n), good, api.ErrRange)
		fails(exampleRules(), start(1, n), repeated(newPacket(0, 0), 21), api.ErrRange)
		fails(exampleRules(), start(1, n), nil, api.ErrRange)
	}
	for _, c := range badPackets() {
		unpackable(exampleRules(), []api.FramePacket{c.value}, c.want)
		unpackable(exampleRules(), append(slices.Clone(good), c.value, newPacket(-1, 0)), c.want)
		fails(exampleRules(), start(0, 0), append(slices.Clone(large[1:]), c.value), c.want)
	}
	unpackable(exampleRules(), repeated(newPacket(0, 0), 21), api.ErrLarge)
	unpackable(exampleRules(), repeated(newPacket(-1, 0), 21), api.ErrLarge)
	unpackable(exampleRules(), []api.FramePacket{newPacket(0, 0, make([]int, 41)...), newPacket(-1, 0)}, api.ErrLarge)
	unpackable(exampleRules(), []api.FramePacket{newPacket(-1, 0), newPacket(0, 0, make([]int, 41)...)}, api.ErrRange)
	fails(rules(24, 4), start(3, 63), repeated(newPacket(0, 0), 21), api.ErrLarge)
	n, e := frame.FramesFor(rules(24, 4), repeated(newPacket(0, 0), 20))
	wantNumber(t, "20 packets", n, e, 3) // 60 bytes, and 12 that fill
}
