package frame

import (
	"strings"

	"cassegrain/api"
	"cassegrain/check"
	"cassegrain/number"
)

// The strings of frames and packets.
const (
	frameNumbers  = 3 // before the bytes of a frame
	packetNumbers = 2 // before those of a packet
	maxDigits     = 3
)

// readNumbers reads at least so many numbers without signs that are separated by single blanks.
func readNumbers(s string, least int) ([]int, bool) {
	count := strings.Count(s, " ") + 1
	l, ok := number.Words{Count: count, Unsigned: count, Digits: maxDigits}.Read(s)
	return l, ok && count >= least
}

// FormatFrame returns the string of a frame.
func FormatFrame(f api.FrameFrame) string {
	return number.Join(append([]int{f.Channel, f.Count, f.First}, f.Data...)...)
}

// ParseFrame returns the frame with this string.
func ParseFrame(s string) (api.FrameFrame, api.Errno) {
	l, ok := readNumbers(s, frameNumbers)
	if !ok {
		return api.FrameFrame{}, api.ErrSyntax
	}
	f := frameFrom(l)
	if e := check.AtMost(api.MaxFrameLength, f.Data, check.Numbers(0, maxByte))(); e != api.OK {
		return api.FrameFrame{}, e
	}
	return f, api.OK
}

// FormatPacket returns the string of a packet.
func FormatPacket(p api.FramePacket) string {
	return number.Join(append([]int{p.Identity, p.Count}, p.Data...)...)
}

// ParsePacket returns the packet with this string.
func ParsePacket(s string) (api.FramePacket, api.Errno) {
	l, ok := readNumbers(s, packetNumbers)
	if !ok {
		return api.FramePacket{}, api.ErrSyntax
	}
	p := api.FramePacket{Identity: l[0], Count: l[1], Data: l[packetNumbers:]}
	if e := CheckPacket(p); e != api.OK {
		return api.FramePacket{}, e
	}
	return p, api.OK
}
