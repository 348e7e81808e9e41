package pass_test

import (
	"math/rand"
	"strings"
	"testing"

	"cassegrain/api"
	"cassegrain/pass"
)

// P10.3: roles, and names of persons.
func TestRoleOf(t *testing.T) {
	l := with(longLog(), "join ada 40 1 vi", "join ada 41 0 zoe", "join ada 42 1 ada")
	for name, want := range map[string]int{"ada": 1, "bo": 1, "cy": 3, "vi": 1, "zoe": 0} {
		role, e := pass.RoleOf(l, name)
		wantValue(t, name, role, e, want)
	}
	role, e := pass.RoleOf(l[:len(l)-1], "ada")
	wantValue(t, "ada", role, e, 2)
	for _, name := range []string{"eve", "Ada", "a", "adaa", "send", "abcdefghijkl"} {
		role, e := pass.RoleOf(l, name)
		wantNoValue(t, name, role, e, api.ErrMissing)
		role, e = pass.RoleOf(nil, name)
		wantNoValue(t, name, role, e, api.ErrMissing)
	}
	for _, name := range append(badNames(), strings.Repeat("x", 100000)) {
		role, e := pass.RoleOf(l, name)
		wantNoValue(t, name, role, e, api.ErrName)
	}
}

// P10.3: names of persons, in the order in which they joined first.
func TestPeopleOf(t *testing.T) {
	people, e := pass.PeopleOf(nil)
	wantValue(t, "nobody", people, e, nil)
	l := with(longLog(), "join ada 40 1 zoe", "join ada 40 2 bo", "join ada 41 0 al", "join ada 42 3 zoe")
	for range 2 {
		people, e = pass.PeopleOf(l)
		wantValue(t, l, people, e, []string{"ada", "bo", "cy", "vi", "zoe", "al"})
		people[0] = "eve"
	}
}

// P10.3: persons of random logs, by definition.
func TestPeopleByDefinition(t *testing.T) {
	r := rand.New(rand.NewSource(3))
	for range 150 {
		l := randomLog(r, 40, quiet)
		people, e := pass.PeopleOf(l)
		wantValue(t, l, people, e, peopleByDefinition(l))
		for _, name := range names() {
			role, e := pass.RoleOf(l, name)
			if want := roleByDefinition(l, name); want < 0 {
				wantNoValue(t, name, role, e, api.ErrMissing)
			} else {
				wantValue(t, name, role, e, want)
			}
		}
	}
}
