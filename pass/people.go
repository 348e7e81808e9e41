package pass

import (
	"cassegrain/api"
	"cassegrain/check"
)

// roleOf returns the role of a person.
func (r *record) roleOf(name string) (int, api.Errno) {
	role, joined := r.roles[name]
	e := check.First(
		check.Name(name),
		check.Require(api.ErrMissing, func() bool { return joined }),
	)
	return role, e
}

// RoleOf returns the role of a person at the end of a log.
func RoleOf(l []api.PassEntry, name string) (int, api.Errno) {
	return ask(l, func(r *record) (int, api.Errno) { return r.roleOf(name) })
}

// PeopleOf returns the names of all persons who have a role, in the order in which they joined first.
func PeopleOf(l []api.PassEntry) ([]string, api.Errno) {
	return ask(l, func(r *record) ([]string, api.Errno) { return r.people, api.OK })
}
