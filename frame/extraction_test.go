package frame_test

import (
	"math/rand"
	"slices"
	"testing"

	"cassegrain/api"
	"cassegrain/frame"
)

// wantExtracted reports packets of the channel 1 under the examples' rules that differ from the wanted ones.
func wantExtracted(t *testing.T, what string, l []api.FrameFrame, want ...api.FramePacket) {
	t.Helper()
	got, e := frame.Extracted(exampleRules(), 1, l)
	wantPackets(t, what, got, e, want)
}

// P6.4, P6.8: the packets of the examples come back; example 5 and other frames that are missing.
func TestExtractedExamples(t *testing.T) {
	for _, c := range examplePackings() {
		wantExtracted(t, c.name, c.frames, reported(c.packets)...)
	}
	l := examplePackings()[1].frames
	first, second := newPacket(9, 0, 1, 2), newPacket(9, 1, 3)
	wantExtracted(t, "without the second frame", []api.FrameFrame{l[0], l[2]})
	wantExtracted(t, "without the first frame", l[1:], second)
	wantExtracted(t, "without the third frame", l[:2], first)
	wantExtracted(t, "the first frame alone", l[:1])
	wantExtracted(t, "in another order", []api.FrameFrame{l[2], l[0], l[1], l[0]}, first, second)
}

// P6.4: edge cases of frames.
func TestExtractedEdges(t *testing.T) {
	none, empty := newFrame(1, 0, 255, 9, 0, 0, 9), newPacket(9, 7)
	wantExtracted(t, "no packet begins", []api.FrameFrame{none})
	wantExtracted(t, "a packet without bytes", []api.FrameFrame{newFrame(1, 0, 1, 5, 9, 7, 0)}, empty)
	wantExtracted(t, "opened after skipping", []api.FrameFrame{none, newFrame(1, 1, 1, 5, 9, 7, 0)}, empty)
	wantExtracted(t, "First 0 after a complete packet", []api.FrameFrame{newFrame(1, 0, 0, 9, 1, 1, 8), newFrame(1, 1, 0, 9, 2, 1, 8)}, newPacket(9, 1, 8), newPacket(9, 2, 8))
	wantExtracted(t, "another First after a complete packet", []api.FrameFrame{newFrame(1, 0, 0, 9, 1, 1, 8), newFrame(1, 1, 1, 9, 9, 7, 0)}, newPacket(9, 1, 8), empty)
	wantExtracted(t, "FrameSearch after a complete packet", []api.FrameFrame{newFrame(1, 0, 0, 9, 1, 1, 8), newFrame(1, 1, 255, 9, 2, 1, 8), newFrame(1, 2, 0, 9, 3, 1, 8)}, newPacket(9, 1, 8), newPacket(9, 3, 8))
	wantExtracted(t, "idle packets only", []api.FrameFrame{newFrame(1, 0, 0, 255, 1, 1, 8), newFrame(1, 1, 1, 9, 255, 7, 0)})
	wantExtracted(t, "the rest of a field is too short for a header", []api.FrameFrame{newFrame(1, 0, 3, 1, 2, 3, 9), newFrame(1, 1, 2, 7, 0, 9, 8), newFrame(1, 2, 1, 0, 9, 7, 0)}, empty, newPacket(9, 8), empty)
}

// P6.4: headers that are split, and First that fits them or not.
func TestExtractedSplitHeaders(t *testing.T) {
	one, two := newFrame(1, 0, 3, 0, 0, 0, 9), newFrame(1, 0, 2, 0, 0, 9, 7) // of a header
	for _, c := range []struct {
		name   string
		frames []api.FrameFrame
		want   []api.FramePacket
	}{
		{"two bytes are missing, and one of data", []api.FrameFrame{one, newFrame(1, 1, 3, 7, 1, 6, 8), newFrame(1, 2, 2, 7, 0, 8, 8)}, []api.FramePacket{newPacket(9, 7, 6), newPacket(8, 7)}},
		{"two bytes are missing, and two of data", []api.FrameFrame{one, newFrame(1, 1, 255, 7, 2, 6, 5)}, []api.FramePacket{newPacket(9, 7, 6, 5)}},
		{"two bytes are missing, and more than a frame", []api.FrameFrame{one, newFrame(1, 1, 255, 7, 3, 6, 5), newFrame(1, 2, 1, 4, 8, 7, 0)}, []api.FramePacket{newPacket(9, 7, 6, 5, 4), newPacket(8, 7)}},
		{"two bytes are missing, First does not fit", []api.FrameFrame{one, newFrame(1, 1, 1, 7, 8, 7, 0)}, []api.FramePacket{newPacket(8, 7)}},
		{"two bytes are missing, First is FrameSearch too early", []api.FrameFrame{one, newFrame(1, 1, 255, 7, 0, 8, 7), newFrame(1, 2, 1, 0, 8, 6, 0)}, []api.FramePacket{newPacket(8, 6)}},
		{"one byte is missing, and none of data", []api.FrameFrame{two, newFrame(1, 1, 1, 0, 8, 7, 0)}, []api.FramePacket{newPacket(9, 7), newPacket(8, 7)}},
		{"one byte is missing, and three of data", []api.FrameFrame{two, newFrame(1, 1, 255, 3, 1, 2, 3)}, []api.FramePacket{newPacket(9, 7, 1, 2, 3)}},
		{"one byte is missing, First is 0", []api.FrameFrame{two, newFrame(1, 1, 0, 0, 8, 0, 7), newFrame(1, 2, 0, 7, 7, 1, 1)}, []api.FramePacket{newPacket(0, 8), newPacket(7, 7, 1)}},
		{"the frame after is missing", []api.FrameFrame{two, newFrame(1, 2, 1, 0, 8, 7, 0)}, []api.FramePacket{newPacket(8, 7)}},
	} {
		wantExtracted(t, c.name, c.frames, c.want...)
	}
}

// P6.4: a packet may have more bytes than one that is packed.
func TestExtractedLongPacket(t *testing.T) {
	x := rules(24, 1)
	encoding := append([]int{254, 255, 255}, repeated(77, 255)...) // 258 bytes
	encoding = append(encoding, 254, 0, 3, 1, 2, 3)                // 264 bytes
	var l []api.FrameFrame
	for part := range slices.Chunk(encoding, 24) {
		l = append(l, newFrame(0, len(l), 255, part...))
	}
	l[0].First = 0
	l[10].First = 18
	want := []api.FramePacket{newPacket(254, 255, repeated(77, 255)...), newPacket(254, 0, 1, 2, 3)}
	got, e := frame.Extracted(x, 0, l)
	wantPackets(t, "long", got, e, want)
	l[9].First = 23
	got, e = frame.Extracted(x, 0, l)
	wantPackets(t, "First that does not fit", got, e, []api.FramePacket{newPacket(254, 0, 1, 2, 3)})
}

// stays says whether the full counts of frames from a count on stay the same in an order, but for whole turns of all of them.
func stays(order []int, count int) bool {
	var counts []int
	for _, i := range order {
		counts = append(counts, (count+i)%64)
	}
	for k, full := range fullByDefinition(counts) {
		if full-counts[0]-64 != order[k]-order[0] {
			return false
		}
	}
	return true
}

// disordered returns the indexes of frames that are received, in an order in which the full counts stay the same, some of them repeatedly.
func disordered(r *rand.Rand, received []int, count int) []int {
	for len(received) > 0 {
		order := slices.Clone(received)
		for range r.Intn(1 + min(len(received), 40-len(received))) {
			order = append(order, received[r.Intn(len(received))])
		}
		reach := between(r, 0, 12)
		keys := map[int]int{}
		for _, i := range received {
			keys[i] = i + r.Intn(reach+1)
		}
		slices.SortFunc(order, func(a, b int) int { return keys[a] - keys[b] })
		if r.Intn(2) == 0 {
			r.Shuffle(len(order), func(a, b int) { order[a], order[b] = order[b], order[a] })
		}
		if stays(order, count) {
			return order
		}
	}
	return nil
}

// transmission is packets and their frames, at least one.
type transmission struct {
	rules   api.FrameRules
	start   api.FrameStart
	packets []api.FramePacket
	frames  []api.FrameFrame
}

func randomTransmission(t *testing.T, r *rand.Rand) transmission {
	t.Helper()
	for {
		x := transmission{rules: randomRules(r)}
		x.start = api.FrameStart{Channel: r.Intn(x.rules.Channels), Count: r.Intn(64)}
		x.packets = randomPackets(r, between(r, 1, 20), r.Intn(41))
		frames, e := frame.Packed(x.rules, x.start, x.packets)
		if e == api.OK {
			x.frames = frames
			return x
		}
		wantError(t, x, e, api.ErrLarge)
	}
}

// inOrder returns frames in an order, with frames of other channels between them; a frame that is repeated has other data.
func (x transmission) inOrder(r *rand.Rand, order []int) []api.FrameFrame {
	var l []api.FrameFrame
	seen := map[int]bool{}
	for _, i := range order {
		f := x.frames[i]
		if seen[i] {
			f.Data = numbers(r, x.rules.Length, 0, 255)
			f.First = 0
		}
		seen[i] = true
		l = append(l, f)
		if other := randomFrame(r, x.rules); other.Channel != x.start.Channel && len(l)+len(order) < 40 {
			l = append(l, other)
		}
	}
	return l
}

// P6.8: all frames are received, in any order in which full counts stay the same, and some of them repeatedly.
func TestExtractedFromAll(t *testing.T) {
	r := rand.New(rand.NewSource(7))
	for range 2000 {
		x := randomTransmission(t, r)
		all := make([]int, len(x.frames))
		for i := range all {
			all[i] = i
		}
		l := x.inOrder(r, disordered(r, all, x.start.Count))
		before := cloneFrames(l)
		got, e := frame.Extracted(x.rules, x.start.Channel, l)
		wantPackets(t, x, got, e, reported(x.packets))
		var data [][]int
		for _, p := range got {
			data = append(data, p.Data)
		}
		wantSeparate(t, x, data)
		wantFrames(t, "the frames", l, api.OK, before)
	}
}

// receivedOf returns a random choice of frames, with less than 32 missing in a row.
func receivedOf(r *rand.Rand, count int) []int {
	received := []int{}
	share := r.Float64()
	for i := range count {
		if r.Float64() < share || len(received) > 0 && i-received[len(received)-1] > 30 {
			received = append(received, i)
		}
	}
	return received
}

// P6.8, P6.9: some frames are missing; the packets that are extracted are those of which no byte is missing, in their order.
func TestExtractedWithoutSome(t *testing.T) {
	r := rand.New(rand.NewSource(8))
	for range 5000 {
		x := randomTransmission(t, r)
		received := receivedOf(r, len(x.frames))
		order := disordered(r, received, x.start.Count)
		want := wholeByDefinition(x.rules.Length, x.packets, func(i int) bool { return !slices.Contains(received, i) })
		got, e := frame.Extracted(x.rules, x.start.Channel, x.inOrder(r, order))
		wantPackets(t, x, got, e, want)
	}
}

// P6.8: each choice of frames that are missing.
func TestExtractedWithoutEach(t *testing.T) {
	r := rand.New(rand.NewSource(9))
	for range 60 {
		x := transmission{rules: rules(between(r, 4, 8), 1), packets: randomPackets(r, 6, 6)}
		x.frames = packedByDefinition(x.rules, x.start, x.packets)
		count := min(len(x.frames), 10)
		for choice := range 1 << count {
			gone := func(i int) bool { return i < count && choice>>i&1 == 1 }
			var l []api.FrameFrame
			for i, f := range x.frames {
				if !gone(i) {
					l = append(l, f)
				}
			}
			got, e := frame.Extracted(x.rules, 0, l)
			wantPackets(t, x, got, e, wholeByDefinition(x.rules.Length, x.packets, gone))
		}
	}
}

// P6.4: any frames, also such as no packing makes, by the definition.
func TestExtractedByDefinition(t *testing.T) {
	r := rand.New(rand.NewSource(10))
	for range 5000 {
		x := rules(between(r, 4, 8), 2)
		var l []api.FrameFrame
		for range r.Intn(41) {
			f := newFrame(r.Intn(8)/7, len(l)%64, r.Intn(x.Length), numbers(r, x.Length, 0, 5)...)
			switch r.Intn(12) {
			case 0:
				f.Count = r.Intn(64)
			case 1, 2:
				f.Data[r.Intn(x.Length)] = between(r, 0, 255)
			case 3, 4:
				f.First = 255
			}
			l = append(l, f)
		}
		fitting(r, l)
		for channel := range 2 {
			got, e := frame.Extracted(x, channel, l)
			wantPackets(t, l, got, e, extractedByDefinition(channel, l))
		}
	}
}

// fitting changes First of some frames to what extraction expects, if it has read all frames before.
func fitting(r *rand.Rand, l []api.FrameFrame) {
	var begun []int
	for i, f := range l {
		if r.Intn(4) > 0 && i > 0 {
			l[i].First = firstByDefinition(begun, f.Data)
		}
		if len(begun) == 0 && l[i].First == 255 {
			continue
		}
		for _, n := range f.Data {
			begun = append(begun, n)
			if complete(begun) {
				begun = nil
			}
		}
	}
}
