package frame

import (
	"slices"

	"cassegrain/api"
	"cassegrain/check"
	"cassegrain/number"
)

// CheckPacket checks a packet.
func CheckPacket(p api.FramePacket) api.Errno {
	return check.First(
		check.Range(p.Identity, 0, maxByte),
		check.Range(p.Count, 0, maxByte),
		check.AtMost(api.MaxFramePacket, p.Data, check.Numbers(0, maxByte)),
	)
}

// packetsCheck is the check of packets.
func packetsCheck(l []api.FramePacket) func() api.Errno {
	return check.AtMost(api.MaxFramePackets, l, CheckPacket)
}

// packing is the encodings of packets, one after the other, and the index at which each of them begins.
type packing struct {
	bytes, starts []int
}

// add adds the encoding of a packet.
func (x *packing) add(p api.FramePacket) {
	x.starts = append(x.starts, len(x.bytes))
	x.bytes = append(x.bytes, p.Identity, p.Count, len(p.Data))
	x.bytes = append(x.bytes, p.Data...)
}

// newPacking packs valid packets into data fields of a length, the last one of which is filled.
func newPacking(length int, l []api.FramePacket) packing {
	var x packing
	for _, p := range l {
		x.add(p)
	}
	missing := number.Modulo(-len(x.bytes), length)
	if number.Within(missing, 1, api.FrameHeader-1) {
		missing += length // the header of an idle packet does not fit
	}
	if missing > 0 {
		x.add(api.FramePacket{Identity: api.FrameIdle, Data: make([]int, missing-api.FrameHeader)})
	}
	return x
}

// firstIn returns First of the data field from an index to another one, without its end.
func (x packing) firstIn(from, end int) int {
	i := slices.IndexFunc(x.starts, func(start int) bool { return number.Within(start, from, end-1) })
	if i < 0 {
		return api.FrameSearch
	}
	return x.starts[i] - from
}

// FramesFor returns how many frames packets need.
func FramesFor(r api.FrameRules, l []api.FramePacket) (int, api.Errno) {
	if e := check.First(rulesCheck(r), packetsCheck(l)); e != api.OK {
		return 0, e
	}
	return len(newPacking(r.Length, l).bytes) / r.Length, api.OK
}

// Packed returns the frames with packets.
func Packed(r api.FrameRules, x api.FrameStart, l []api.FramePacket) ([]api.FrameFrame, api.Errno) {
	e := check.First(rulesCheck(r), channelCheck(r, x.Channel), countCheck(x.Count), packetsCheck(l))
	if e != api.OK {
		return nil, e
	}
	packets := newPacking(r.Length, l)
	if len(packets.bytes) > api.MaxFrameFrames*r.Length {
		return nil, api.ErrLarge
	}
	frames := make([]api.FrameFrame, len(packets.bytes)/r.Length)
	for i := range frames {
		from, end := i*r.Length, (i+1)*r.Length
		frames[i] = api.FrameFrame{
			Channel: x.Channel,
			Count:   (x.Count + i) % api.FrameCounts,
			First:   packets.firstIn(from, end),
			Data:    slices.Clone(packets.bytes[from:end]),
		}
	}
	return frames, api.OK
}
