package pass

import (
	"cassegrain/api"
	"cassegrain/frame"
	"cassegrain/ranging"
)

// packetsOf returns the packets of a channel.
func (r *record) packetsOf(channel int) ([]api.FramePacket, api.Errno) {
	if !r.inForce[settingFrames] {
		return nil, api.ErrMissing
	}
	return frame.Extracted(r.rules, channel, r.frames)
}

// PacketsOf returns the packets of a channel that came whole.
func PacketsOf(l []api.PassEntry, channel int) ([]api.FramePacket, api.Errno) {
	return ask(l, func(r *record) ([]api.FramePacket, api.Errno) { return r.packetsOf(channel) })
}

// distanceAt returns the minimum and the maximum distance at a time.
func (r *record) distanceAt(time int) ([2]api.Frac, api.Errno) {
	return ranging.DistanceIn(r.measurements, time)
}

// DistanceOf returns the minimum and the maximum distance at a time by all measurements.
func DistanceOf(l []api.PassEntry, time int) ([2]api.Frac, api.Errno) {
	return ask(l, func(r *record) ([2]api.Frac, api.Errno) { return r.distanceAt(time) })
}

// UplinkOf returns the uplink in force.
func UplinkOf(l []api.PassEntry) (api.CommandUplink, api.Errno) {
	return ask(l, func(r *record) (api.CommandUplink, api.Errno) {
		if !r.inForce[settingUplink] {
			return api.CommandUplink{}, api.ErrMissing
		}
		return r.uplink, api.OK
	})
}

// link returns the state of the link.
func (r *record) link() (api.CommandState, api.Errno) {
	if !r.inForce[settingUplink] {
		return api.CommandState{}, api.ErrMissing
	}
	return r.state, api.OK
}

// LinkOf returns the state of the link.
func LinkOf(l []api.PassEntry) (api.CommandState, api.Errno) {
	return ask(l, (*record).link)
}
