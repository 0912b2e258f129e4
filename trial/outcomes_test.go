package trial_test

import (
	"slices"
	"testing"

	"butler/api"
	"butler/trial"
)

// has tells whether these are among them.
func has(l [][][]api.Answer, a [][]api.Answer) bool {
	return slices.ContainsFunc(l, func(b [][]api.Answer) bool { return trial.Same(a, b) })
}

// all outcomes are those of all orders, each once
func TestOutcomes(t *testing.T) {
	for i, x := range []struct {
		game trial.Game
		many int
	}{
		{trial.Game{Cells: []int{0}, Scripts: [][]api.Call{nil}, Call: counts}, 1},
		{trial.Game{Cells: []int{0, 0}, Scripts: [][]api.Call{calls(1, 0, 3), calls(1, 1, 3)}, Call: counts}, 1},
		{trial.Game{Cells: []int{0}, Scripts: [][]api.Call{calls(1, 0, 2), calls(1, 0, 2)}, Call: counts}, 6},
		{trial.Game{Cells: []int{0, 0}, Scripts: [][]api.Call{calls(1, 0, 2), calls(1, 0, 1), calls(1, 1, 2)}, Call: counts}, 3},
		{trial.Game{Cells: []int{0, 0}, Scripts: [][]api.Call{calls(2, 0, 2), append(calls(2, 1, 1), calls(1, 0, 1)...)}, Call: counts}, 1},
		{trial.Game{Cells: []int{0}, Scripts: [][]api.Call{calls(2, 0, 1), calls(1, 0, 2)}, Call: counts}, 2},
		{trial.Tree([]api.Recipe{{Level: 1}}, [][]api.Call{{shut(0)}, {ask(1, 0), open(0)}}), 2},
		{trial.Tree([]api.Recipe{{Level: 1}}, [][]api.Call{{open(0)}, {ask(1, 1)}}), 2},
	} {
		got := x.game.Outcomes()
		var want [][][]api.Answer
		for schedule := range x.game.Schedules {
			if a := x.game.Play(schedule).Answers; !has(want, a) {
				want = append(want, a)
			}
		}
		if len(got) != x.many || len(want) != x.many || slices.ContainsFunc(want, func(a [][]api.Answer) bool { return !has(got, a) }) {
			t.Errorf("%d: %v, not %v", i, got, want)
		}
	}
}

// somebody waits for nobody in some orders, in others not
func TestOutcomesStuck(t *testing.T) {
	g := trial.Game{Cells: []int{0}, Scripts: [][]api.Call{trial.Ops(3), trial.Ops(1)}, Call: func(thread int, c api.Call) trial.Next {
		gate := trial.Gate{At: 0}
		if c.Op == 1 {
			return gate.Enter(func(e api.Errno) trial.Next { return trial.Over(e, 0) })
		}
		return gate.Shut(func(first bool, e api.Errno) trial.Next { return trial.Over(e, trial.Number(first)) })
	}}
	got := g.Outcomes()
	if len(got) != 2 || !has(got, [][]api.Answer{trial.Codes(api.ErrStuck), trial.Codes(0)}) || !has(got, [][]api.Answer{trial.Values(1), trial.Codes(api.ErrGateShut)}) {
		t.Error(got)
	}
}
