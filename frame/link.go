package frame

import (
	"cmp"
	"slices"

	"cassegrain/api"
	"cassegrain/check"
	"cassegrain/number"
)

// numberedFrame is a frame with its full count.
type numberedFrame struct {
	api.FrameFrame
	full int
}

// link is the ordered frames of a channel that were received by its rules.
type link struct {
	api.FrameRules
	frames []numberedFrame
}

// newLink checks rules, a channel and frames, and puts those of the channel in order.
func newLink(r api.FrameRules, channel int, l []api.FrameFrame) (link, api.Errno) {
	e := check.First(
		rulesCheck(r),
		channelCheck(r, channel),
		check.AtMost(api.MaxFrameFrames, l, func(f api.FrameFrame) api.Errno { return CheckFrame(r, f) }),
	)
	if e != api.OK {
		return link{}, e
	}
	return link{FrameRules: r, frames: ordered(numbered(channel, l))}, api.OK
}

// closest returns the full count of a count that is closest to another full count, of two equally close ones the greater one.
func closest(full, count int) int {
	after := number.Modulo(count-full, api.FrameCounts)
	if after > api.FrameCounts/2 {
		after -= api.FrameCounts
	}
	return full + after
}

// numbered returns the frames of a channel with their full counts.
func numbered(channel int, l []api.FrameFrame) []numberedFrame {
	var frames []numberedFrame
	for _, f := range l {
		if f.Channel != channel {
			continue
		}
		full := f.Count + api.FrameCounts
		if n := len(frames); n > 0 {
			full = closest(frames[n-1].full, f.Count)
		}
		frames = append(frames, numberedFrame{FrameFrame: f, full: full})
	}
	return frames
}

// ordered sorts frames by their full counts, and keeps the first one with each of them.
func ordered(frames []numberedFrame) []numberedFrame {
	slices.SortStableFunc(frames, func(a, b numberedFrame) int { return cmp.Compare(a.full, b.full) })
	return slices.CompactFunc(frames, func(a, b numberedFrame) bool { return a.full == b.full })
}

// span returns how many full counts there are from the first frame to the last one.
func (k link) span() int {
	if len(k.frames) == 0 {
		return 0
	}
	return k.frames[len(k.frames)-1].full - k.frames[0].full + 1
}

// missing returns how many of these full counts no frame has.
func (k link) missing() int {
	return k.span() - len(k.frames)
}

// Ordered returns the ordered frames of a channel.
func Ordered(r api.FrameRules, channel int, l []api.FrameFrame) ([]api.FrameFrame, api.Errno) {
	k, e := newLink(r, channel, l)
	if e != api.OK {
		return nil, e
	}
	frames := make([]api.FrameFrame, len(k.frames))
	for i, f := range k.frames {
		frames[i] = f.FrameFrame
		frames[i].Data = slices.Clone(f.Data)
	}
	return frames, api.OK
}

// MissingOf returns how many frames of a channel are missing.
func MissingOf(r api.FrameRules, channel int, l []api.FrameFrame) (int, api.Errno) {
	k, e := newLink(r, channel, l)
	if e != api.OK {
		return 0, e
	}
	return k.missing(), api.OK
}

// LossOf returns which part of the frames of a channel is missing.
func LossOf(r api.FrameRules, channel int, l []api.FrameFrame) (api.Frac, api.Errno) {
	k, e := newLink(r, channel, l)
	if e != api.OK {
		return api.Frac{}, e
	}
	if k.span() == 0 {
		return api.Frac{}, api.ErrNone
	}
	return number.Lowest(k.missing(), k.span()), api.OK
}
