package command_test

import (
	"fmt"
	"math"
	"math/rand"
	"strings"
	"testing"

	"cassegrain/api"
	"cassegrain/command"
)

const exampleString = "safe cruise burn;wake 1,fire 2,stop 1,ping -1;cold 1 0 -1 1,heat 1 -1 2 50"

// wantModel reports a model or an error that differs from the wanted one.
func wantModel(t *testing.T, what any, got api.CommandModel, e api.Errno, want api.CommandModel) {
	t.Helper()
	wantError(t, what, e, api.OK)
	if text(got) != text(want) {
		t.Errorf("%v: %+v, want %+v", what, got, want)
	}
}

// P8.7: example 8, and models that are not valid.
func TestFormatModel(t *testing.T) {
	for want, m := range map[string]api.CommandModel{
		exampleString: exampleModel(),
		";;":          {},
		"a;b 0;":      {Modes: []string{"a"}, Kinds: []api.CommandKind{{Name: "b"}}},
		" ;;":         {Modes: []string{"", ""}},
		"a,;b c;x -2, 9223372036854775807;; 0 -9223372036854775808 -1 -3": {
			Modes: []string{"a,;b", "c"}, Kinds: []api.CommandKind{{Name: "x", To: -2}, {To: math.MaxInt}},
			Rules: []api.CommandRule{{Name: ";", Mode: math.MinInt, After: -1, Gap: -3}},
		},
		strings.Repeat("ab ", 1000) + "c;;": {Modes: append(strings.Fields(strings.Repeat("ab ", 1000)), "c")},
	} {
		if s := command.FormatModel(m); s != want {
			t.Errorf("%q, want %q", s, want)
		}
	}
}

// P8.7: strings of models, and the errors of CheckModel.
func TestParseModel(t *testing.T) {
	for s, want := range map[string]api.CommandModel{
		exampleString: exampleModel(),
		"a;b 0;":      {Modes: []string{"a"}, Kinds: []api.CommandKind{{Name: "b"}}},
		"a;b -1;a 0 -1 -1 1,b 0 0 0 1000000": {
			Modes: []string{"a"}, Kinds: []api.CommandKind{{Name: "b", To: api.CommandAny}},
			Rules: []api.CommandRule{{Name: "a", Mode: -1, After: -1, Gap: 1}, {Name: "b", Gap: 1000000}},
		},
	} {
		m, e := command.ParseModel(s)
		wantModel(t, s, m, e, want)
	}
	fails := func(s string, want api.Errno) {
		t.Helper()
		m, e := command.ParseModel(s)
		wantError(t, s, e, want)
		if text(m) != text(api.CommandModel{}) {
			t.Errorf("%q: %v beside an error", s, m)
		}
	}
	for s, want := range map[string]api.Errno{
		"a b c d e f g;k 0;": api.ErrLarge, "9 a;k 0;": api.ErrName, "a a;k 0;": api.ErrExists, "a,b c;k 0;": api.ErrName, "a\t;k 0;": api.ErrName,
		"a" + strings.Repeat(" a", 29000) + ";k 0;": api.ErrLarge,
		"a;k 0" + strings.Repeat(",k 0", 8) + ";":   api.ErrLarge,
		"a;- 0;": api.ErrName, "a;k 0,k 0;": api.ErrExists, "a;k 1;": api.ErrMissing, "a;k 9999999;": api.ErrMissing,
		"a;k 0;r 0 0 0 1" + strings.Repeat(",r 0 0 0 1", 10): api.ErrLarge,
		"a;k 0;1 0 0 0 1": api.ErrName, "a;k 0;r 0 0 0 1,r 0 0 0 1": api.ErrExists, "a;k 0;r -1 0 0 1": api.ErrMissing, "a;k 0;r 0 1 0 1": api.ErrMissing,
		"a;k 0;r 0 0 1 1": api.ErrMissing, "a;k 0;r 0 0 0 0": api.ErrRange, "a;k 0;r 0 0 0 -1": api.ErrRange, "a;k 0;r 0 0 0 1000001": api.ErrRange,
		"a;k 0;r 0 0 -1 2": api.ErrForm,
	} {
		fails(s, want)
	}
	long := strings.Repeat("a", 60000-5)
	fails(long+";k 0;", api.ErrName)
	fails(long+"a;k 0;", api.ErrLarge)
	fails(strings.Repeat(";", 60000), api.ErrSyntax)
	fails(strings.Repeat(";", 60001), api.ErrLarge)
}

// badWords returns strings that are not numbers of at most so many digits.
func badWords(digits int) []string {
	return []string{
		"", " ", "1 ", " 1", "-", "--1", "-0", "+1", "01", "00", "-01", "x", "1x", "1.0", "1\t", "\x001", "1\xff", "\u0661", "/", ":",
		"1" + strings.Repeat("0", digits), strings.Repeat("0", digits), "9223372036854775808", "18446744073709551617",
	}
}

// P8.7: strings that do not have the form of a model's, also if the model would have other errors.
func TestParseModelSyntax(t *testing.T) {
	fails := func(s string) {
		t.Helper()
		m, e := command.ParseModel(s)
		wantError(t, fmt.Sprintf("%q", s), e, api.ErrSyntax)
		if text(m) != text(api.CommandModel{}) {
			t.Errorf("%q: %v beside an error", s, m)
		}
	}
	for _, s := range []string{
		"", ";", ";;", ";;;", "a", "a;k 0", "a;k 0;;", ";k 0;", "a;;", "a;;r 0 0 0 1", " a;k 0;", "a ;k 0;", "a  b;k 0;", " ;k 0;",
		"a;k;", "a;k 0 0;", "a; 0;", "a;0;", "a;k  0;", "a; k 0;", "a;k 0 ;", "a;k 0,;", "a;,k 0;", "a;k 0,,l 0;", "a;k 0, l 0;", "a;,;",
		"a;k 0;r", "a;k 0;r 0 0 0", "a;k 0;r 0 0 0 1 1", "a;k 0; 0 0 0 1", "a;k 0; r 0 0 0 1", "a;k 0;r 0 0 0 1,", "a;k 0;,r 0 0 0 1", "a;k 0;,",
		"a;k 0;r 0 0 0 1;", "a;k 0;r 0 0 0 1,,s 0 0 0 1", "a;k 0;r 0  0 0 1", "a;k 0; ", "a;k 0;r 0 0 0 1 ", "9;- 5;r",
		exampleString + ",", exampleString + " ", exampleString + "\n", ";" + exampleString, " " + exampleString,
	} {
		fails(s)
	}
	for _, word := range append(badWords(7), "-2", "-10", "-11", "-9999999") {
		for _, around := range []string{
			"a;k #;", "a;k 0,l #;", "9 9;k #,l 0;", "a;k 0;r # 0 0 1", "a;k 0;r 0 # 0 1", "a;k 0;r 0 0 # 1", "a;k 0;r 0 0 0 #", "a;k 0;r 0 0 0 1,s 0 0 # 1",
		} {
			fails(strings.Replace(around, "#", word, 1))
		}
	}
}

// P8.7: strings of acts, also of such as no file has.
func TestActStrings(t *testing.T) {
	for want, a := range map[string]api.CommandAct{
		"1 20 200":                  act(1, 20, 200),
		"0 0 0":                     {},
		"9999999999999 5 4":         act(9999999999999, 5, 4),
		"7 1000000000000 999999999": act(7, api.MaxTick, 999999999),
	} {
		if s := command.FormatAct(a); s != want {
			t.Errorf("%q, want %q", s, want)
		}
		got, e := command.ParseAct(want)
		wantValue(t, want, got, e, a)
	}
	if s := command.FormatAct(act(-1, math.MinInt, math.MaxInt)); s != "-1 -9223372036854775808 9223372036854775807" {
		t.Error(s)
	}
	for _, word := range append(badWords(13), "-1") {
		for _, around := range []string{"# 2 3", "1 # 3", "1 2 #"} {
			s := strings.Replace(around, "#", word, 1)
			a, e := command.ParseAct(s)
			wantNoValue(t, fmt.Sprintf("%q", s), a, e, api.ErrSyntax)
		}
	}
	for _, s := range []string{"", "1", "1 2", "1 2 3 4", "1 2 3 ", "1,2,3", strings.Repeat("1 ", 100000)} {
		a, e := command.ParseAct(s)
		wantNoValue(t, s, a, e, api.ErrSyntax)
	}
}

// words returns the words of the kinds of events.
func words() []string {
	return []string{"pass", "send", "arrive", "hear", "lose", "drop", "repeat", "restart", "reboot"}
}

// P8.7: strings of events, also of such as are not valid.
func TestFormatEvent(t *testing.T) {
	for kind, word := range words() {
		for _, n := range []int{0, 1, 20, -1, math.MinInt, math.MaxInt} {
			want := fmt.Sprint(word, " ", n)
			if kind == api.CommandRestart || kind == api.CommandReboot {
				want = word
			}
			if s := command.FormatEvent(api.CommandEvent{Kind: kind, Number: n}); s != want {
				t.Errorf("%q, want %q", s, want)
			}
		}
	}
	for _, kind := range []int{math.MinInt, -1, 9, 10, math.MaxInt} {
		if s := command.FormatEvent(api.CommandEvent{Kind: kind, Number: 1}); s != "" {
			t.Error(kind, s)
		}
	}
}

// P8.7: example 8, and strings that are not those of valid events.
func TestParseEvent(t *testing.T) {
	for s, want := range map[string]api.CommandEvent{
		"pass 20": {Kind: api.CommandPass, Number: 20}, "pass 1000000000000": {Kind: api.CommandPass, Number: 1000000000000},
		"send 0": {Kind: api.CommandSend}, "send 11": {Kind: api.CommandSend, Number: 11}, "arrive 5": {Kind: api.CommandArrive, Number: 5},
		"hear 0": {Kind: api.CommandHear}, "lose 1": {Kind: api.CommandLose, Number: 1}, "drop 2": {Kind: api.CommandDrop, Number: 2},
		"repeat 3": {Kind: api.CommandRepeat, Number: 3}, "restart": {Kind: api.CommandRestart}, "reboot": {Kind: api.CommandReboot},
	} {
		e, errno := command.ParseEvent(s)
		wantValue(t, s, e, errno, want)
	}
	fails := func(s string, want api.Errno) {
		t.Helper()
		e, errno := command.ParseEvent(s)
		wantNoValue(t, fmt.Sprintf("%q", s), e, errno, want)
	}
	for kind, word := range words() {
		for _, n := range append(badWords(13), "-1") {
			fails(word+" "+n, api.ErrSyntax)
		}
		fails(word+" 1 1", api.ErrSyntax)
		fails(" "+word+" 1", api.ErrSyntax)
		fails(word+"  1", api.ErrSyntax)
		fails(strings.ToUpper(word)+" 1", api.ErrSyntax)
		fails(word+"s 1", api.ErrSyntax)
		if kind == api.CommandRestart || kind == api.CommandReboot {
			fails(word+" 0", api.ErrSyntax)
			fails(word+" 1", api.ErrSyntax)
			continue
		}
		fails(word, api.ErrSyntax)
		fails(word+" 9999999999999", api.ErrRange)
		fails(fmt.Sprint(word, " ", numbersOf(kind).Hi+1), api.ErrRange)
	}
	fails("pass 0", api.ErrRange)
	for _, s := range []string{"", " ", "0", "1", "wake", "wake 1", "pass1", "events 1", "restart ", "reboot\n", "pass " + strings.Repeat("1", 100000)} {
		fails(s, api.ErrSyntax)
	}
}

// P8.13: strings and back.
func TestFormatAndBack(t *testing.T) {
	r := rand.New(rand.NewSource(9))
	for range 500 {
		u := randomUplink(r, 12, between(r, 1, 1999999))
		s := command.FormatModel(u.Model)
		m, e := command.ParseModel(s)
		wantModel(t, s, m, e, u.Model)
		for _, a := range u.File {
			got, e := command.ParseAct(command.FormatAct(a))
			wantValue(t, a, got, e, a)
		}
	}
	s := command.FormatModel(largeModel())
	m, e := command.ParseModel(s)
	wantModel(t, s, m, e, largeModel())
	for kind := range api.CommandEvents {
		numbers := numbersOf(kind)
		for _, n := range []int{numbers.Lo, (numbers.Lo + numbers.Hi) / 2, numbers.Hi} {
			want := api.CommandEvent{Kind: kind, Number: n}
			got, e := command.ParseEvent(command.FormatEvent(want))
			wantValue(t, want, got, e, want)
		}
	}
}
