package schedule

import (
	"strconv"
	"strings"

	"cassegrain/api"
	"cassegrain/number"
)

const maxDigits = 4 // of a number in a string

// FormatPlan returns the string of a plan.
func FormatPlan(p []api.SchedulePass) string {
	words := make([]string, len(p))
	for i, x := range p {
		words[i] = formatPass(x)
	}
	return strings.Join(words, " ")
}

func formatPass(x api.SchedulePass) string {
	word := strconv.Itoa(x.Request) + "@" + strconv.Itoa(x.Start)
	for _, antenna := range x.Antennas {
		word += "+" + strconv.Itoa(antenna)
	}
	return word
}

// ParsePlan returns the plan with this string.
func ParsePlan(s string) ([]api.SchedulePass, api.Errno) {
	if len(s) > api.MaxString {
		return nil, api.ErrLarge
	}
	p, ok := readPlan(s)
	if !ok {
		return nil, api.ErrSyntax
	}
	if len(p) > api.MaxScheduleRequests {
		return nil, api.ErrLarge
	}
	return p, api.OK
}

// readPlan reads the string of a plan, which need not be valid.
func readPlan(s string) ([]api.SchedulePass, bool) {
	if s == "" {
		return nil, true
	}
	var p []api.SchedulePass
	for _, word := range strings.Split(s, " ") {
		x, ok := readPass(word)
		if !ok {
			return nil, false
		}
		p = append(p, x)
	}
	return p, true
}

// readPass reads the word of a pass.
func readPass(word string) (api.SchedulePass, bool) {
	request, rest, _ := strings.Cut(word, "@")
	words := append([]string{request}, strings.Split(rest, "+")...)
	numbers := make([]int, len(words))
	for i, digits := range words {
		n, ok := number.ReadNatural(digits, maxDigits)
		if !ok {
			return api.SchedulePass{}, false
		}
		numbers[i] = n
	}
	return api.SchedulePass{Request: numbers[0], Start: numbers[1], Antennas: numbers[2:]}, true
}
