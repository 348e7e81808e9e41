package check_test

import (
	"math"
	"strings"
	"testing"

	"cassegrain/api"
	"cassegrain/check"
)

func TestFirst(t *testing.T) {
	fails := func(e api.Errno) func() api.Errno { return func() api.Errno { return e } }
	never := func() api.Errno {
		t.Error("a check after the first error is made")
		return api.OK
	}
	if e := check.First(); e != api.OK {
		t.Error(e)
	}
	if e := check.First(fails(api.OK), fails(api.OK)); e != api.OK {
		t.Error(e)
	}
	if e := check.First(fails(api.OK), fails(api.ErrOrder), never); e != api.ErrOrder {
		t.Error(e)
	}
}

func TestRequire(t *testing.T) {
	for condition, want := range map[bool]api.Errno{true: api.OK, false: api.ErrGap} {
		if e := check.Require(api.ErrGap, func() bool { return condition })(); e != want {
			t.Error(condition, e)
		}
	}
}

func TestIndexed(t *testing.T) {
	for _, c := range []struct {
		items []api.Errno
		index int
		want  api.Errno
	}{
		{nil, 0, api.OK},
		{[]api.Errno{api.OK, api.OK}, 0, api.OK},
		{[]api.Errno{api.ErrGap, api.ErrForm}, 0, api.ErrGap},
		{[]api.Errno{api.OK, api.OK, api.ErrForm, api.ErrGap}, 2, api.ErrForm},
	} {
		next := 0
		index, e := check.Indexed(c.items, func(i int, item api.Errno) api.Errno {
			if i != next || item != c.items[i] {
				t.Error(c.items, i, item)
			}
			next++
			return item
		})
		if index != c.index || e != c.want {
			t.Error(c.items, index, e)
		}
	}
}

func TestEach(t *testing.T) {
	itself := func(e api.Errno) api.Errno { return e }
	for _, c := range []struct {
		items []api.Errno
		want  api.Errno
	}{
		{nil, api.OK},
		{[]api.Errno{api.OK, api.OK}, api.OK},
		{[]api.Errno{api.OK, api.ErrGap, api.ErrForm}, api.ErrGap},
	} {
		if e := check.Each(c.items, itself)(); e != c.want {
			t.Error(c.items, e)
		}
	}
}

func TestAtMost(t *testing.T) {
	itself := func(e api.Errno) api.Errno { return e }
	for _, c := range []struct {
		items []api.Errno
		want  api.Errno
	}{
		{nil, api.OK},
		{[]api.Errno{api.OK, api.OK}, api.OK},
		{[]api.Errno{api.OK, api.ErrForm}, api.ErrForm},
		{[]api.Errno{api.ErrGap, api.ErrForm}, api.ErrGap},
		{[]api.Errno{api.OK, api.OK, api.OK}, api.ErrLarge},
		{[]api.Errno{api.ErrGap, api.OK, api.OK}, api.ErrLarge},
	} {
		if e := check.AtMost(2, c.items, itself)(); e != c.want {
			t.Error(c.items, e)
		}
	}
}

func TestNumbers(t *testing.T) {
	for n, want := range map[int]api.Errno{math.MinInt: api.ErrRange, -3: api.ErrRange, -2: api.OK, 5: api.OK, 6: api.ErrRange} {
		if e := check.Numbers(-2, 5)(n); e != want {
			t.Error(n, e)
		}
	}
}

func TestRange(t *testing.T) {
	for n, want := range map[int]api.Errno{
		math.MinInt: api.ErrRange, -3: api.ErrRange, -2: api.OK, 0: api.OK, 5: api.OK, 6: api.ErrRange, math.MaxInt: api.ErrRange,
	} {
		if e := check.Range(n, -2, 5)(); e != want {
			t.Error(n, e)
		}
	}
}

func TestEnds(t *testing.T) {
	for r, want := range map[api.Range]api.Errno{
		{}:                                 api.OK,
		{Lo: -2, Hi: 5}:                    api.OK,
		{Lo: 5, Hi: -2}:                    api.OK,
		{Lo: -3, Hi: 5}:                    api.ErrRange,
		{Lo: -2, Hi: 6}:                    api.ErrRange,
		{Lo: 6, Hi: -2}:                    api.ErrRange,
		{Lo: 5, Hi: -3}:                    api.ErrRange,
		{Lo: math.MinInt}:                  api.ErrRange,
		{Hi: math.MaxInt}:                  api.ErrRange,
		{Lo: math.MaxInt, Hi: math.MinInt}: api.ErrRange,
	} {
		if e := check.Ends(r, -2, 5)(); e != want {
			t.Error(r, e)
		}
	}
}

func TestOrdered(t *testing.T) {
	for r, want := range map[api.Range]api.Errno{
		{}:                                 api.OK,
		{Lo: -2, Hi: 5}:                    api.OK,
		{Lo: 5, Hi: 5}:                     api.OK,
		{Lo: 6, Hi: 5}:                     api.ErrOrder,
		{Lo: math.MinInt, Hi: math.MaxInt}: api.OK,
		{Lo: math.MaxInt, Hi: math.MinInt}: api.ErrOrder,
	} {
		if e := check.Ordered(r)(); e != want {
			t.Error(r, e)
		}
	}
}

func TestParts(t *testing.T) {
	for g, want := range map[api.Gauss]api.Errno{
		{}:                 api.OK,
		{Re: 3, Im: -3}:    api.OK,
		{Re: -3, Im: 3}:    api.OK,
		{Re: 4}:            api.ErrRange,
		{Re: -4}:           api.ErrRange,
		{Im: 4}:            api.ErrRange,
		{Im: -4}:           api.ErrRange,
		{Re: math.MinInt}:  api.ErrRange,
		{Im: math.MaxInt}:  api.ErrRange,
		{Re: -3, Im: 1000}: api.ErrRange,
	} {
		if e := check.Parts(3)(g); e != want {
			t.Error(g, e)
		}
	}
}

func TestName(t *testing.T) {
	for _, s := range []string{"a", "Z", "z9", "A-", "a--b", "x0-9Zz", "abcdefghijkl", "A12345678901"} {
		if e := check.Name(s)(); e != api.OK {
			t.Error(s, e)
		}
	}
	for _, s := range []string{
		"", "abcdefghijklm", strings.Repeat("a", 60000), "0", "9a", "-", "-a", " a", "a ", "a b", "a_b", "a.b", "a;b", "a,b", "a\n", "\x00", "a\x00",
		"@a", "[a", "`a", "{a", "a@", "a[", "a`", "a{", "a/", "a:", "\u00e4", "a\u00e4", "a\u0661", "a\xff",
	} {
		if e := check.Name(s)(); e != api.ErrName {
			t.Errorf("%q: %d", s, e)
		}
	}
}

func TestNewName(t *testing.T) {
	type item struct{ name string }
	nameOf := func(x item) string { return x.name }
	earlier := []item{{"a"}, {"b-1"}, {"9"}}
	for s, want := range map[string]api.Errno{"c": api.OK, "A": api.OK, "b-": api.OK, "a": api.ErrExists, "b-1": api.ErrExists, "9": api.ErrName, "": api.ErrName} {
		if e := check.NewName(s, earlier, nameOf)(); e != want {
			t.Errorf("%q: %d", s, e)
		}
	}
	if e := check.NewName("a", nil, nameOf)(); e != api.OK {
		t.Error(e)
	}
}

func TestExists(t *testing.T) {
	for i, want := range map[int]bool{math.MinInt: false, -1: false, 0: true, 2: true, 3: false, math.MaxInt: false} {
		if check.Exists([]string{"a", "b", "c"}, i) != want {
			t.Error(i)
		}
	}
	if check.Exists([]int(nil), 0) {
		t.Error("an item of an empty slice")
	}
}
