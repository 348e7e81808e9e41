package command

import (
	"cassegrain/api"
	"cassegrain/check"
)

// eventKind is a kind of events: its word, the range of its numbers (both 0 if it has none), and how an event with a number changes a link.
type eventKind struct {
	word        string
	least, most int
	change      func(link, int) (link, api.Errno)
}

// numbered says whether events of the kind have a number.
func (x eventKind) numbered() bool {
	return x.most > 0
}

// eventTable is all kinds of events.
type eventTable [api.CommandEvents]eventKind

func eventKinds() eventTable {
	const lastAct, lastIndex = api.MaxCommandActs - 1, api.MaxCommandFlight - 1
	return eventTable{
		api.CommandPass:    {"pass", 1, api.MaxTick, link.pass},
		api.CommandSend:    {"send", 0, lastAct, link.send},
		api.CommandArrive:  {"arrive", 0, lastIndex, link.arrive},
		api.CommandHear:    {"hear", 0, lastIndex, link.hear},
		api.CommandLose:    {"lose", 0, lastIndex, link.lose},
		api.CommandDrop:    {"drop", 0, lastIndex, link.drop},
		api.CommandRepeat:  {"repeat", 0, lastIndex, link.repeat},
		api.CommandRestart: {"restart", 0, 0, link.restart},
		api.CommandReboot:  {"reboot", 0, 0, link.reboot},
	}
}

// candidates yields all valid events, by their kinds, then by their numbers; of CommandPass that with the number 1 alone.
func (t eventTable) candidates(yield func(api.CommandEvent) bool) {
	for kind, x := range t {
		most := x.most
		if kind == api.CommandPass {
			most = x.least
		}
		for n := x.least; n <= most; n++ {
			if !yield(api.CommandEvent{Kind: kind, Number: n}) {
				return
			}
		}
	}
}

// CheckEvent checks an event.
func CheckEvent(e api.CommandEvent) api.Errno {
	kinds := eventKinds()
	if !check.Exists(kinds[:], e.Kind) {
		return api.ErrKind
	}
	x := kinds[e.Kind]
	if !x.numbered() {
		return check.Require(api.ErrForm, func() bool { return e.Number == 0 })()
	}
	return check.Range(e.Number, x.least, x.most)()
}
