package number_test

import (
	"fmt"
	"slices"
	"testing"

	"cassegrain/number"
)

func TestSets(t *testing.T) {
	for count, want := range map[int]string{
		-1: "[]",
		0:  "[]",
		1:  "[] [0]",
		2:  "[] [0] [1] [0 1]",
		3:  "[] [0] [1] [2] [0 1] [0 2] [1 2] [0 1 2]",
		4:  "[] [0] [1] [2] [3] [0 1] [0 2] [0 3] [1 2] [1 3] [2 3] [0 1 2] [0 1 3] [0 2 3] [1 2 3] [0 1 2 3]",
	} {
		s := fmt.Sprint(slices.Collect(number.Sets(count)))
		if s != "["+want+"]" {
			t.Error(count, s)
		}
	}
	sets := 0
	for set := range number.Sets(12) {
		for i := range set {
			set[i] = 100 // does not change those that follow
		}
		sets++
	}
	if sets != 4096 {
		t.Error(sets)
	}
	for set := range number.Sets(12) {
		if len(set) == 2 {
			break
		}
	}
}

func TestMinimumSet(t *testing.T) {
	contains := func(wanted ...int) func([]int) bool {
		return func(set []int) bool {
			return !slices.ContainsFunc(wanted, func(i int) bool { return !slices.Contains(set, i) })
		}
	}
	either := func(a, b func([]int) bool) func([]int) bool {
		return func(set []int) bool { return a(set) || b(set) }
	}
	for _, c := range []struct {
		wrong func([]int) bool
		want  []int
	}{
		{contains(), nil},
		{contains(3), []int{3}},
		{contains(5), nil},
		{contains(4, 0, 2), []int{0, 2, 4}},
		{either(contains(0, 1, 2), contains(3, 4)), []int{3, 4}},
		{either(contains(1, 4), contains(2, 3)), []int{1, 4}},
		{either(contains(1, 2), contains(0, 4)), []int{0, 4}},
		{contains(0, 1, 2, 3, 4), []int{0, 1, 2, 3, 4}},
	} {
		if set := number.MinimumSet(5, c.wrong); !slices.Equal(set, c.want) {
			t.Error(set, c.want)
		}
	}
}
