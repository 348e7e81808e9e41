package pass

import (
	"cmp"
	"slices"

	"cassegrain/api"
)

// compareEntries says which one of two entries comes first when logs are merged.
func compareEntries(x, y api.PassEntry) int {
	return cmp.Or(cmp.Compare(x.At, y.At), cmp.Compare(FormatEntry(x), FormatEntry(y)))
}

// merged merges two valid logs.
func merged(a, b []api.PassEntry) []api.PassEntry {
	var l []api.PassEntry
	for len(a) > 0 && len(b) > 0 {
		order := compareEntries(a[0], b[0]) // 0 only for equal entries, as they are valid
		if order <= 0 {
			l = append(l, a[0])
			a = a[1:]
		} else {
			l = append(l, b[0])
		}
		if order >= 0 {
			b = b[1:]
		}
	}
	return slices.Concat(l, a, b)
}

// Merged returns two logs merged.
func Merged(a, b []api.PassEntry) ([]api.PassEntry, api.Errno) {
	for _, l := range [2][]api.PassEntry{a, b} {
		if _, e := CheckLog(l); e != api.OK {
			return nil, e
		}
	}
	return ask(merged(a, b), func(r *record) ([]api.PassEntry, api.Errno) { return r.entries, api.OK })
}
