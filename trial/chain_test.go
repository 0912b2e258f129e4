package trial_test

import (
	"slices"
	"testing"

	"butler/api"
	"butler/trial"
)

// chainBehind is a game of a chain of three keys behind another cell: each call is an Ask(A, B).
func chainBehind(scripts ...[]api.Call) trial.Game {
	c := trial.Chain{At: 1, Many: 3}
	return trial.Game{Cells: append([]int{77}, c.Cells()...), Scripts: scripts, Call: func(thread int, x api.Call) trial.Next {
		return c.Ask(x.A, x.B, func(ring bool) trial.Next { return trial.Over(api.OK, trial.Number(ring)) })
	}}
}

func TestChainCells(t *testing.T) {
	for _, many := range []int{0, 1, 3} {
		if got := (trial.Chain{At: 4, Many: many}).Cells(); !slices.Equal(got, make([]int, many)) {
			t.Errorf("%d keys: %v", many, got)
		}
	}
	c := trial.Chain{At: 4, Many: 3}
	if got := []int{c.Wait(0), c.Wait(1), c.Wait(2)}; !slices.Equal(got, []int{4, 5, 6}) {
		t.Error(got)
	}
}

// by hand: one thread, all ways in which an Ask ends
func TestChainAlone(t *testing.T) {
	for i, x := range []struct {
		calls []api.Call
		told  []int
		want  [][4]int
	}{
		{[]api.Call{{A: 3}, {B: 3}, {A: -1}, {B: -1}, {A: -1, B: 3}}, []int{0, 0, 0, 0, 0}, nil},
		{[]api.Call{{A: 1, B: 1}}, []int{1}, [][4]int{{2, api.StepStore, 0, 2}}},
		{[]api.Call{{A: 0, B: 1}, {A: 1, B: 2}, {A: 2, B: 0}}, []int{0, 0, 1}, [][4]int{
			{1, api.StepStore, 0, 2}, {2, api.StepLoad, 0, 0},
			{2, api.StepStore, 0, 3}, {3, api.StepLoad, 0, 0},
			{3, api.StepStore, 0, 1}, {1, api.StepLoad, 2, 2}, {2, api.StepLoad, 3, 3},
		}},
		{[]api.Call{{A: 0, B: 1}, {A: 1, B: 0}, {A: 2, B: 0}}, []int{0, 1, 0}, [][4]int{
			{1, api.StepStore, 0, 2}, {2, api.StepLoad, 0, 0},
			{2, api.StepStore, 0, 1}, {1, api.StepLoad, 2, 2},
			{3, api.StepStore, 0, 1}, {1, api.StepLoad, 2, 2}, {2, api.StepLoad, 1, 1}, {1, api.StepLoad, 2, 2},
		}},
	} {
		var want []api.Step
		for _, s := range x.want {
			want = append(want, trial.Step(0, s[0], s[1], s[2], s[3]))
		}
		told := chainBehind(x.calls).Play(nil)
		if !slices.Equal(told.Answers[0], trial.Values(x.told...)) || !slices.Equal(trial.Bare(told.Trace), want) {
			t.Error(i, told)
		}
	}
}

// who looks sees what others have written down meanwhile
func TestChainTogether(t *testing.T) {
	first, second := []api.Call{{A: 0, B: 1}}, []api.Call{{A: 1, B: 0}}
	for i, x := range []struct {
		schedule []int
		want     [][]api.Answer
	}{
		{[]int{0, 0, 0}, [][]api.Answer{trial.Values(0), trial.Values(1)}},
		{[]int{0, 1, 0}, [][]api.Answer{trial.Values(1), trial.Values(1)}},
		{[]int{1, 1, 0}, [][]api.Answer{trial.Values(1), trial.Values(0)}},
	} {
		if told := chainBehind(first, second).Play(x.schedule); !trial.Same(told.Answers, x.want) {
			t.Error(i, told)
		}
	}
}
