package pass

import (
	"slices"
	"strings"

	"cassegrain/api"
	"cassegrain/carrier"
	"cassegrain/check"
	"cassegrain/command"
	"cassegrain/frame"
	"cassegrain/number"
)

// The kinds of settings.
const (
	settingLoop = iota
	settingLock
	settingFrames
	settingUplink
	settingCount
)

const (
	noKind        = -1 // no kind of entries
	settingDigits = 4  // of a number of a setting
	uplinkParts   = 3
)

// settings is what is in force, and the state of the link of the uplink.
type settings struct {
	inForce [settingCount]bool
	loop    api.CarrierLoop
	lock    api.CarrierLock
	rules   api.FrameRules
	uplink  api.CommandUplink
	state   api.CommandState
}

// settingKind is a kind of settings: its word, the kind of entries that use it, after which it is not changed any more, and how a string is read into what puts it in force.
type settingKind struct {
	word string
	user int
	read func(string) (func(*settings), api.Errno)
}

// settingKinds returns all kinds of settings.
func settingKinds() [settingCount]settingKind {
	return [settingCount]settingKind{
		settingLoop:   {"loop", noKind, readLoop},
		settingLock:   {"lock", noKind, readLock},
		settingFrames: {"frames", api.PassFrame, readFrames},
		settingUplink: {"uplink", api.PassCommand, readUplink},
	}
}

// findSetting returns the kind of the settings of a word, and whether there is one.
func findSetting(word string) (int, bool) {
	for i, x := range settingKinds() {
		if x.word == word {
			return i, true
		}
	}
	return 0, false
}

// readNumbers reads so many numbers of a setting.
func readNumbers(s string, count int) ([]int, bool) {
	return number.Words{Count: count, Unsigned: count, Digits: settingDigits}.Read(s)
}

func readLoop(s string) (func(*settings), api.Errno) {
	loop, e := carrier.ParseLoop(s)
	return func(x *settings) { x.loop = loop }, e
}

func readLock(s string) (func(*settings), api.Errno) {
	l, ok := readNumbers(s, 3)
	if !ok {
		return nil, api.ErrSyntax
	}
	lock := api.CarrierLock{Limit: l[0], Window: l[1], Need: l[2]}
	return func(x *settings) { x.lock = lock }, checkLock(lock)
}

// checkLock checks the rules of lock alone.
func checkLock(lock api.CarrierLock) api.Errno {
	_, e := carrier.LockOf(lock, nil)
	return e
}

func readFrames(s string) (func(*settings), api.Errno) {
	l, ok := readNumbers(s, 2)
	if !ok {
		return nil, api.ErrSyntax
	}
	rules := api.FrameRules{Length: l[0], Channels: l[1]}
	return func(x *settings) { x.rules = rules }, frame.CheckRules(rules)
}

func readUplink(s string) (func(*settings), api.Errno) {
	parts := strings.Split(s, "|")
	if len(parts) != uplinkParts {
		return nil, api.ErrSyntax
	}
	model, e := command.ParseModel(parts[0])
	if e != api.OK {
		return nil, e
	}
	file, e := readFile(parts[1])
	if e != api.OK {
		return nil, e
	}
	l, ok := readNumbers(parts[2], 2)
	if !ok {
		return nil, api.ErrSyntax
	}
	uplink := api.CommandUplink{Model: model, File: file, Window: l[0], Flight: l[1]}
	state, e := command.Begin(uplink)
	return func(x *settings) { x.uplink, x.state = uplink, state }, e
}

// readFile reads the acts of a file.
func readFile(s string) ([]api.CommandAct, api.Errno) {
	var file []api.CommandAct
	_, e := check.Indexed(strings.Split(s, ","), func(_ int, word string) api.Errno {
		act, e := command.ParseAct(word)
		file = append(file, act)
		return e
	})
	return file, e
}

// SettingAt returns the string of the last setting of a word up to a time.
func SettingAt(l []api.PassEntry, word string, at int) (string, api.Errno) {
	return ask(l, func(r *record) (string, api.Errno) {
		_, ok := findSetting(word)
		e := check.First(
			check.Require(api.ErrKind, func() bool { return ok }),
			check.Range(at, 0, api.MaxTick),
		)
		if e != api.OK {
			return "", e
		}
		return r.settingAt(word, at)
	})
}

// settingAt looks for the setting backwards, as the last one counts.
func (r *record) settingAt(word string, at int) (string, api.Errno) {
	for _, x := range slices.Backward(r.entries) {
		s, ok := strings.CutPrefix(x.Text, word+" ")
		if ok && x.Kind == api.PassSet && x.At <= at {
			return s, api.OK
		}
	}
	return "", api.ErrNone
}
