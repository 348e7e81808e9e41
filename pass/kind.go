package pass

import (
	"strings"

	"cassegrain/api"
	"cassegrain/check"
	"cassegrain/command"
	"cassegrain/frame"
	"cassegrain/ranging"
	"cassegrain/sample"
)

// kind is a kind of entries.
type kind interface {
	// permits says whether somebody with a role may make such an entry.
	permits(role int) bool
	// take takes what a valid entry says into a record, unless it has an error there.
	take(r *record, e api.PassEntry) api.Errno
}

// only permits a single role.
type only struct{ role int }

func (o only) permits(role int) bool {
	return role == o.role
}

// everybody permits all roles.
type everybody struct{}

func (everybody) permits(int) bool {
	return true
}

// The kinds of entries, each with who may make them.
type (
	joinKind    struct{ only }
	setKind     struct{ only }
	takeKind    struct{ only }
	frameKind   struct{ only }
	measureKind struct{ only }
	commandKind struct{ only }
	noteKind    struct{ everybody }
	endKind     struct{ only }
)

// kinds returns all kinds of entries.
func kinds() [api.PassKinds]kind {
	operator, engineer, controller := only{api.PassOperator}, only{api.PassEngineer}, only{api.PassController}
	return [api.PassKinds]kind{
		api.PassJoin:    joinKind{engineer},
		api.PassSet:     setKind{engineer},
		api.PassTake:    takeKind{operator},
		api.PassFrame:   frameKind{operator},
		api.PassMeasure: measureKind{operator},
		api.PassCommand: commandKind{controller},
		api.PassNote:    noteKind{},
		api.PassEnd:     endKind{engineer},
	}
}

func (joinKind) take(r *record, e api.PassEntry) api.Errno {
	if _, joined := r.roles[e.Text]; !joined {
		if len(r.people) == api.MaxPassPeople {
			return api.ErrFull
		}
		r.people = append(r.people, e.Text)
	}
	r.roles[e.Text] = e.Number
	return api.OK
}

func (setKind) take(r *record, e api.PassEntry) api.Errno {
	word, s, separated := strings.Cut(e.Text, " ")
	i, ok := findSetting(word)
	if !ok || !separated {
		return api.ErrSyntax
	}
	setting := settingKinds()[i]
	putInForce, errno := setting.read(s)
	if errno != api.OK {
		return errno
	}
	if r.has(setting.user) {
		return api.ErrBusy
	}
	putInForce(&r.settings)
	r.inForce[i] = true
	return api.OK
}

func (takeKind) take(r *record, e api.PassEntry) (errno api.Errno) {
	r.packets, errno = appended(r.packets, e.Text, sample.ParsePacket, func(all []api.SamplePacket) api.Errno {
		_, errno := sample.Assembled(all)
		return errno
	})
	return errno
}

func (frameKind) take(r *record, e api.PassEntry) (errno api.Errno) {
	if !r.inForce[settingFrames] {
		return api.ErrMissing
	}
	r.frames, errno = appended(r.frames, e.Text, frame.ParseFrame, func(all []api.FrameFrame) api.Errno {
		return check.First(
			func() api.Errno { return frame.CheckFrame(r.rules, all[len(all)-1]) },
			check.Require(api.ErrFull, func() bool { return len(all) <= api.MaxFrameFrames }),
		)
	})
	return errno
}

func (measureKind) take(r *record, e api.PassEntry) (errno api.Errno) {
	r.measurements, errno = appended(r.measurements, e.Text, ranging.ParseMeasurement, func(all []api.RangingMeasurement) api.Errno {
		return check.Require(api.ErrFull, func() bool { return len(all) <= api.MaxRangingItems })()
	})
	return errno
}

func (commandKind) take(r *record, e api.PassEntry) api.Errno {
	if !r.inForce[settingUplink] {
		return api.ErrMissing
	}
	event, errno := command.ParseEvent(e.Text)
	if errno != api.OK {
		return errno
	}
	after, errno := command.Apply(r.uplink, r.state, event)
	if errno != api.OK {
		return errno
	}
	r.state = after
	return api.OK
}

func (noteKind) take(*record, api.PassEntry) api.Errno {
	return api.OK
}

func (endKind) take(*record, api.PassEntry) api.Errno {
	return api.OK
}

// appended returns items with the one that a string describes, or the items alone if it, or all of them together, have an error.
func appended[T any](items []T, s string, parse func(string) (T, api.Errno), checkAll func([]T) api.Errno) ([]T, api.Errno) {
	item, e := parse(s)
	if e != api.OK {
		return items, e
	}
	all := append(items, item)
	if e := checkAll(all); e != api.OK {
		return items, e
	}
	return all, api.OK
}
