package command

import (
	"slices"
	"strings"

	"cassegrain/api"
	"cassegrain/check"
	"cassegrain/number"
)

// Numbers in strings.
const (
	modelDigits = 7
	maxDigits   = 13 // of acts and events
	leastNumber = -1 // of a model
)

// FormatModel returns the string of a model.
func FormatModel(m api.CommandModel) string {
	kinds := formatItems(m.Kinds, func(k api.CommandKind) string { return k.Name + " " + number.Join(k.To) })
	rules := formatItems(m.Rules, func(r api.CommandRule) string {
		return r.Name + " " + number.Join(r.Kind, r.Mode, r.After, r.Gap)
	})
	return strings.Join(m.Modes, " ") + ";" + kinds + ";" + rules
}

// formatItems returns the strings of items, separated by ",".
func formatItems[T any](items []T, format func(T) string) string {
	words := make([]string, len(items))
	for i, item := range items {
		words[i] = format(item)
	}
	return strings.Join(words, ",")
}

// ParseModel returns the model with this string.
func ParseModel(s string) (api.CommandModel, api.Errno) {
	if len(s) > api.MaxString {
		return api.CommandModel{}, api.ErrLarge
	}
	m, ok := readModel(s)
	if !ok {
		return api.CommandModel{}, api.ErrSyntax
	}
	if _, e := CheckModel(m); e != api.OK {
		return api.CommandModel{}, e
	}
	return m, api.OK
}

// readModel reads the string of a model, which need not be valid.
func readModel(s string) (api.CommandModel, bool) {
	parts := strings.Split(s, ";")
	if len(parts) != 3 {
		return api.CommandModel{}, false
	}
	modes := strings.Split(parts[0], " ")
	kinds, ok := readItems(parts[1], 1, func(name string, l []int) api.CommandKind {
		return api.CommandKind{Name: name, To: l[0]}
	})
	if !ok || slices.Contains(modes, "") {
		return api.CommandModel{}, false
	}
	m := api.CommandModel{Modes: modes, Kinds: kinds}
	if parts[2] == "" {
		return m, true
	}
	m.Rules, ok = readItems(parts[2], 4, func(name string, l []int) api.CommandRule {
		return api.CommandRule{Name: name, Kind: l[0], Mode: l[1], After: l[2], Gap: l[3]}
	})
	return m, ok
}

// readItems reads items that are separated by ",", each a name and so many numbers.
func readItems[T any](s string, count int, itemOf func(name string, numbers []int) T) ([]T, bool) {
	var items []T
	for _, item := range strings.Split(s, ",") {
		name, rest, _ := strings.Cut(item, " ")
		numbers, ok := number.Words{Count: count, Digits: modelDigits}.Read(rest)
		if !ok || name == "" || slices.Min(numbers) < leastNumber {
			return nil, false
		}
		items = append(items, itemOf(name, numbers))
	}
	return items, true
}

// FormatAct returns the string of an act.
func FormatAct(a api.CommandAct) string {
	return number.Join(a.Kind, a.Window.Lo, a.Window.Hi)
}

// ParseAct returns the act with this string.
func ParseAct(s string) (api.CommandAct, api.Errno) {
	l, ok := number.Words{Count: 3, Unsigned: 3, Digits: maxDigits}.Read(s)
	if !ok {
		return api.CommandAct{}, api.ErrSyntax
	}
	return api.CommandAct{Kind: l[0], Window: api.Range{Lo: l[1], Hi: l[2]}}, api.OK
}

// FormatEvent returns the string of an event, the empty string if its kind is not valid.
func FormatEvent(e api.CommandEvent) string {
	kinds := eventKinds()
	if !check.Exists(kinds[:], e.Kind) {
		return ""
	}
	x := kinds[e.Kind]
	if !x.numbered() {
		return x.word
	}
	return x.word + " " + number.Join(e.Number)
}

// ParseEvent returns the event with this string.
func ParseEvent(s string) (api.CommandEvent, api.Errno) {
	x, ok := readEvent(s)
	if !ok {
		return api.CommandEvent{}, api.ErrSyntax
	}
	if e := CheckEvent(x); e != api.OK {
		return api.CommandEvent{}, e
	}
	return x, api.OK
}

// readEvent reads the string of an event, which need not be valid.
func readEvent(s string) (api.CommandEvent, bool) {
	word, digits, numbered := strings.Cut(s, " ")
	for kind, x := range eventKinds() {
		if x.word != word || x.numbered() != numbered {
			continue
		}
		n, ok := number.ReadNatural(digits, maxDigits)
		return api.CommandEvent{Kind: kind, Number: n}, ok || !numbered
	}
	return api.CommandEvent{}, false
}
