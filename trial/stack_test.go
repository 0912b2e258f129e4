package trial_test

import (
	"slices"
	"testing"

	"butler/api"
	"butler/trial"
)

func TestStackCells(t *testing.T) {
	for _, x := range []struct {
		many int
		want []int
	}{
		{0, []int{0, 0}}, {1, []int{1, 0, 0, 0, 0, 0}}, {2, []int{1, 2, 0, 0, 0, 0, 0, 0, 0, 0}},
	} {
		if got := (trial.Stack{At: 4, Many: x.many}).Cells(); !slices.Equal(got, x.want) {
			t.Errorf("%d: %v", x.many, got)
		}
	}
	s := trial.Stack{At: 4, Many: 2}
	got := []int{s.Slots().Head(), s.Slots().Next(0), s.Slots().Used(1), s.Head(), s.Value(0), s.Link(0), s.Value(1), s.Link(1)}
	if !slices.Equal(got, []int{4, 5, 8, 9, 10, 11, 12, 13}) {
		t.Error(got)
	}
}

// stackBehind is a game of a stack with room for one behind another cell: Op 1 Push(A), 2 Pop.
func stackBehind(scripts ...[]api.Call) trial.Game {
	s := trial.Stack{At: 1, Many: 1}
	return trial.Game{Cells: append([]int{77}, s.Cells()...), Scripts: scripts, Call: func(thread int, c api.Call) trial.Next {
		if c.Op == 1 {
			return s.Push(c.A, func(e api.Errno) trial.Next { return trial.Over(e, 0) })
		}
		return s.Pop(func(v int, e api.Errno) trial.Next { return trial.Over(e, v) })
	}}
}

// by hand: one thread, all answers
func TestStackAlone(t *testing.T) {
	told := stackBehind([]api.Call{{Op: 2}, {Op: 1, A: -5}, {Op: 1, A: 6}, {Op: 2}}).Play(nil)
	want := []api.Answer{{Code: api.ErrStackEmpty}, {}, {Code: api.ErrSlotsFull}, {Value: -5}}
	const v = 1 << 32
	var steps []api.Step
	for _, x := range [][4]int{
		{4, api.StepLoad, 0, 0},
		{1, api.StepLoad, 1, 1}, {2, api.StepLoad, 0, 0}, {1, api.StepCas, 1, v}, {3, api.StepStore, 0, 1},
		{5, api.StepStore, 0, -5}, {4, api.StepLoad, 0, 0}, {6, api.StepStore, 0, 0}, {4, api.StepCas, 0, v + 1},
		{1, api.StepLoad, v, v},
		{4, api.StepLoad, v + 1, v + 1}, {6, api.StepLoad, 0, 0}, {4, api.StepCas, v + 1, 2 * v}, {5, api.StepLoad, -5, -5},
		{3, api.StepCas, 1, 0}, {1, api.StepLoad, v, v}, {2, api.StepStore, 0, 0}, {1, api.StepCas, v, 2*v + 1},
	} {
		steps = append(steps, trial.Step(0, x[0], x[1], x[2], x[3]))
	}
	if !slices.Equal(told.Answers[0], want) || !slices.Equal(trial.Bare(told.Trace), steps) {
		t.Error(told)
	}
}

// who is too late tries again, a Push as a Pop
func TestStackTogether(t *testing.T) {
	push, pop := []api.Call{{Op: 1, A: 8}}, []api.Call{{Op: 2}}
	s := trial.Stack{At: 0, Many: 2}
	g := trial.Game{Cells: s.Cells(), Call: func(thread int, c api.Call) trial.Next {
		if c.Op == 1 {
			return s.Push(c.A, func(e api.Errno) trial.Next { return trial.Over(e, 0) })
		}
		return s.Pop(func(v int, e api.Errno) trial.Next { return trial.Over(e, v) })
	}}
	for i, x := range []struct {
		schedule []int
		scripts  [][]api.Call
		want     [][]api.Answer
	}{
		{slices.Concat(slices.Repeat([]int{0}, 6), slices.Repeat([]int{1}, 8)), [][]api.Call{push, push}, [][]api.Answer{trial.Values(0), trial.Values(0)}},
		{slices.Concat(slices.Repeat([]int{0}, 10), slices.Repeat([]int{1}, 8)), [][]api.Call{{push[0], pop[0]}, {{Op: 1, A: 9}}}, [][]api.Answer{trial.Values(0, 9), trial.Values(0)}},
	} {
		g.Scripts = x.scripts
		if told := g.Play(x.schedule); !trial.Same(told.Answers, x.want) || told.Count(trial.Fails) != 1 {
			t.Error(i, told)
		}
	}
}
