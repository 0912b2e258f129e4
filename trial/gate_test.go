package trial_test

import (
	"slices"
	"testing"

	"butler/api"
	"butler/trial"
)

// gateBehind is a game of a gate behind another cell: Op 1 Enter, 2 Leave, 3 Shut.
func gateBehind(scripts ...[]api.Call) trial.Game {
	g := trial.Gate{At: 1}
	return trial.Game{Cells: []int{77, 0}, Scripts: scripts, Call: func(thread int, c api.Call) trial.Next {
		tells := func(e api.Errno) trial.Next { return trial.Over(e, 0) }
		switch c.Op {
		case 1:
			return g.Enter(tells)
		case 2:
			return g.Leave(tells)
		}
		return g.Shut(func(first bool, e api.Errno) trial.Next { return trial.Over(e, trial.Number(first)) })
	}}
}

// by hand: one thread, all answers
func TestGateAlone(t *testing.T) {
	told := gateBehind(trial.Ops(2, 1, 1, 2, 2, 3, 1, 2, 3)).Play(nil)
	want := slices.Concat(trial.Codes(api.ErrGateEmpty, 0, 0, 0, 0), trial.Values(1), trial.Codes(api.ErrGateShut, api.ErrGateEmpty, 0))
	var steps []api.Step
	for _, x := range [][3]int{
		{api.StepLoad, 0, 0},
		{api.StepLoad, 0, 0}, {api.StepCas, 0, 2}, {api.StepLoad, 2, 2}, {api.StepCas, 2, 4},
		{api.StepLoad, 4, 4}, {api.StepCas, 4, 2}, {api.StepLoad, 2, 2}, {api.StepCas, 2, 0},
		{api.StepLoad, 0, 0}, {api.StepCas, 0, 1}, {api.StepLoad, 1, 1},
		{api.StepLoad, 1, 1},
		{api.StepLoad, 1, 1},
		{api.StepLoad, 1, 1}, {api.StepLoad, 1, 1},
	} {
		steps = append(steps, trial.Step(0, 1, x[0], x[1], x[2]))
	}
	if !slices.Equal(told.Answers[0], want) || !slices.Equal(trial.Bare(told.Trace), steps) {
		t.Error(told)
	}
}

// who is too late tries again; who shuts waits for who is in; and may wait in vain
func TestGateTogether(t *testing.T) {
	in, inAndOut, shut := trial.Ops(1), trial.Ops(1, 2), trial.Ops(3)
	for i, x := range []struct {
		schedule     []int
		scripts      [][]api.Call
		want         [][]api.Answer
		fails, wakes int
		stuck        bool
	}{
		{[]int{0, 1, 1, 0}, [][]api.Call{in, in}, [][]api.Answer{trial.Values(0), trial.Values(0)}, 1, 0, false},
		{[]int{1, 1, 1, 0, 0, 0}, [][]api.Call{in, inAndOut}, [][]api.Answer{trial.Values(0), trial.Values(0, 0)}, 1, 0, false},
		{[]int{0, 1, 1, 0}, [][]api.Call{shut, in}, [][]api.Answer{trial.Codes(api.ErrStuck), trial.Values(0)}, 1, 0, true},
		{[]int{1, 1, 0, 0, 0}, [][]api.Call{shut, inAndOut}, [][]api.Answer{trial.Values(1), trial.Values(0, 0)}, 0, 1, false},
		{[]int{0, 0, 0, 1, 1}, [][]api.Call{shut, shut}, [][]api.Answer{trial.Values(1), trial.Values(0)}, 0, 0, false},
	} {
		told := gateBehind(x.scripts...).Play(x.schedule)
		if !trial.Same(told.Answers, x.want) || told.Count(trial.Fails) != x.fails || told.Count(trial.Wakes) != x.wakes || told.Stuck != x.stuck {
			t.Error(i, told)
		}
	}
}
