package frame

import (
	"slices"

	"cassegrain/api"
)

// extraction reads the frames of a link.
type extraction struct {
	link
	open    bool
	before  int   // the full count of the frame before, if it is open
	read    []int // what was read of a packet
	packets []api.FramePacket
}

// packetSize returns the number of bytes of the encoding of a packet whose header is complete.
func packetSize(b []int) int {
	h := header(b[:api.FrameHeader])
	return api.FrameHeader + h[2]
}

// expected returns the expected First of a frame. If the header of a packet is not complete, its missing bytes are taken from the frame, whose data are longer than a header.
func (x *extraction) expected(f numberedFrame) int {
	if len(x.read) == 0 {
		return 0
	}
	needed := packetSize(slices.Concat(x.read, f.Data)) - len(x.read)
	if needed < x.Length {
		return needed
	}
	return api.FrameSearch
}

// take reads the next frame.
func (x *extraction) take(f numberedFrame) {
	if x.open && (f.full != x.before+1 || f.First != x.expected(f)) {
		x.open, x.read = false, nil
	}
	x.before = f.full
	data := f.Data
	if !x.open {
		if f.First == api.FrameSearch {
			return
		}
		x.open, data = true, data[f.First:]
	}
	x.read = append(x.read, data...)
	for x.report() {
	}
}

// report reports the first packet of what was read, if it is complete.
func (x *extraction) report() bool {
	if len(x.read) < api.FrameHeader || len(x.read) < packetSize(x.read) {
		return false
	}
	h, end := header(x.read[:api.FrameHeader]), packetSize(x.read)
	if h[0] != api.FrameIdle {
		data := slices.Clone(x.read[api.FrameHeader:end])
		x.packets = append(x.packets, api.FramePacket{Identity: h[0], Count: h[1], Data: data})
	}
	x.read = x.read[end:]
	return true
}

// Extracted returns the packets that came whole.
func Extracted(r api.FrameRules, channel int, l []api.FrameFrame) ([]api.FramePacket, api.Errno) {
	k, e := newLink(r, channel, l)
	if e != api.OK {
		return nil, e
	}
	x := extraction{link: k}
	for _, f := range k.frames {
		x.take(f)
	}
	return x.packets, api.OK
}
