package frame

import (
	"slices"

	"cassegrain/api"
	"cassegrain/check"
)

// sums are the two sums of bytes.
type sums [api.FrameBytes - api.FrameHeader]int

// sumsOf returns the sums of bytes.
func sumsOf(b []int) sums {
	s := sums{1, 0}
	for _, n := range b {
		s[0] = (s[0] + n) % api.FramePrime
		s[1] = (s[1] + s[0]) % api.FramePrime
	}
	return s
}

// SumOf returns both sums of bytes as one number.
func SumOf(b []int) (int, api.Errno) {
	e := check.First(
		check.Require(api.ErrShape, func() bool { return len(b) > 0 }),
		check.AtMost(api.MaxFrameLength+api.FrameBytes, b, check.Numbers(0, maxByte)),
	)
	if e != api.OK {
		return 0, e
	}
	s := sumsOf(b)
	return (maxByte+1)*s[0] + s[1], api.OK
}

// frameFrom returns the frame whose encoding begins with these bytes, which include its header.
func frameFrom(b []int) api.FrameFrame {
	h := header(b[:api.FrameHeader])
	return api.FrameFrame{Channel: h[0], Count: h[1], First: h[2], Data: slices.Clone(b[api.FrameHeader:])}
}

// Encode returns the encoding of a frame.
func Encode(r api.FrameRules, f api.FrameFrame) ([]int, api.Errno) {
	if e := CheckFrame(r, f); e != api.OK {
		return nil, e
	}
	b := append([]int{f.Channel, f.Count, f.First}, f.Data...)
	s := sumsOf(b)
	return append(b, s[:]...), api.OK
}

// Decode returns the frame with this encoding.
func Decode(r api.FrameRules, b []int) (api.FrameFrame, api.Errno) {
	e := check.First(
		rulesCheck(r),
		check.Require(api.ErrShape, func() bool { return len(b) == r.Length+api.FrameBytes }),
		bytesCheck(b),
	)
	if e != api.OK {
		return api.FrameFrame{}, e
	}
	end := api.FrameHeader + r.Length
	if sums(b[end:]) != sumsOf(b[:end]) {
		return api.FrameFrame{}, api.ErrSum
	}
	f := frameFrom(b[:end])
	if e := CheckFrame(r, f); e != api.OK {
		return api.FrameFrame{}, e
	}
	return f, api.OK
}
