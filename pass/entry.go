package pass

import (
	"strings"

	"cassegrain/api"
	"cassegrain/check"
	"cassegrain/number"
)

// entryWords is the words of all kinds of entries.
var entryWords = [api.PassKinds]string{
	api.PassJoin:    "join",
	api.PassSet:     "set",
	api.PassTake:    "take",
	api.PassFrame:   "frame",
	api.PassMeasure: "measure",
	api.PassCommand: "command",
	api.PassNote:    "note",
	api.PassEnd:     "end",
}

// The string of an entry.
const (
	entryParts = 5
	atDigits   = 13
	roleDigits = 1
)

// isKind says whether a kind of entries is valid.
func isKind(kind int) bool {
	return number.Within(kind, 0, api.PassKinds-1)
}

// CheckEntry checks an entry alone.
func CheckEntry(e api.PassEntry) api.Errno {
	joins, ends := e.Kind == api.PassJoin, e.Kind == api.PassEnd
	return check.First(
		check.Require(api.ErrKind, func() bool { return isKind(e.Kind) }),
		check.Name(e.By),
		check.Range(e.At, 0, api.MaxTick),
		check.Require(api.ErrRange, func() bool { return !joins || number.Within(e.Number, 0, api.PassRoles-1) }),
		check.Require(api.ErrForm, func() bool { return joins || e.Number == 0 }),
		check.Require(api.ErrLarge, func() bool { return len(e.Text) <= api.MaxPassText }),
		check.Require(api.ErrForm, func() bool { return isPrintable(e.Text) }),
		check.Require(api.ErrName, func() bool { return !joins || check.Name(e.Text)() == api.OK }),
		check.Require(api.ErrForm, func() bool { return !ends || e.Text == "" }),
	)
}

// isPrintable says whether all bytes of a text are printable, the blank being one of them.
func isPrintable(text string) bool {
	for i := range len(text) {
		if !number.Within(int(text[i]), ' ', '~') {
			return false
		}
	}
	return true
}

// FormatEntry returns the string of an entry, the empty string if its kind is not valid.
func FormatEntry(e api.PassEntry) string {
	if !isKind(e.Kind) {
		return ""
	}
	return entryWords[e.Kind] + " " + e.By + " " + number.Join(e.At, e.Number) + " " + e.Text
}

// ParseEntry returns the entry with this string.
func ParseEntry(s string) (api.PassEntry, api.Errno) {
	e, ok := readEntry(s)
	if !ok {
		return api.PassEntry{}, api.ErrSyntax
	}
	if errno := CheckEntry(e); errno != api.OK {
		return api.PassEntry{}, errno
	}
	return e, api.OK
}

// readEntry reads the string of an entry, which need not be valid.
func readEntry(s string) (api.PassEntry, bool) {
	parts := strings.SplitN(s, " ", entryParts)
	if len(parts) != entryParts {
		return api.PassEntry{}, false
	}
	for kind, word := range entryWords {
		if word == parts[0] {
			at, isTime := number.ReadNatural(parts[2], atDigits)
			n, isRole := number.ReadNatural(parts[3], roleDigits)
			return api.PassEntry{Kind: kind, By: parts[1], At: at, Number: n, Text: parts[4]}, isTime && isRole
		}
	}
	return api.PassEntry{}, false
}
