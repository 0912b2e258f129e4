package trial_test

import (
	"slices"
	"testing"

	"butler/api"
	"butler/trial"
)

func TestWords(t *testing.T) {
	if got := []int{trial.Going(0), trial.Going(7), trial.Going(255), trial.Done(api.OK), trial.Done(api.ErrOnceFail)}; !slices.Equal(got, []int{1, 29, 1021, 2, 2 + 70*1024}) {
		t.Error(got)
	}
}

// keptBehind is a game of what is kept behind another cell: a call's work is a note, a look at that cell, and the answer A, B; with the Op 1 it asks once more by itself, and that is its answer.
func keptBehind(scripts ...[]api.Call) trial.Game {
	k := trial.Kept{At: 1}
	ends := func(x api.Answer) trial.Next { return trial.Over(x.Code, x.Value) }
	return trial.Game{Cells: []int{77, 0, 0}, Scripts: scripts, Call: func(who int, c api.Call) trial.Next {
		return k.Get(who, func(then func(x api.Answer) trial.Next) trial.Next {
			return trial.Note(api.StepBuild, c.A, c.B, func() trial.Next {
				return trial.Load(0, func(int) trial.Next {
					if c.Op == 1 {
						return k.Get(who, nil, then)
					}
					return then(api.Answer{Code: api.Errno(c.A), Value: c.B})
				})
			})
		}, ends)
	}}
}

func keptCall(code api.Errno, v int) api.Call { return api.Call{A: int(code), B: v} }

// by hand: who is first, who is late, who waits, who asks itself, who was stuck
func TestKept(t *testing.T) {
	fails, again, stuck := api.Answer{Code: 70, Value: -4}, api.Answer{Code: api.ErrOnceAgain}, api.Answer{Code: api.ErrStuck}
	load, word := trial.Step(0, 1, api.StepLoad, 0, 0), 2+70*1024
	for i, x := range []struct {
		schedule []int
		scripts  [][]api.Call
		answers  [][]api.Answer
		want     []api.Step
	}{
		{nil, [][]api.Call{{keptCall(70, -4), keptCall(0, 9)}}, [][]api.Answer{{fails, fails}}, []api.Step{
			load, trial.Step(0, 1, api.StepCas, 0, 1), trial.Step(0, -1, api.StepBuild, 70, -4), trial.Step(0, 0, api.StepLoad, 77, 77),
			trial.Step(0, 2, api.StepStore, 0, -4), trial.Step(0, 1, api.StepStore, 1, word),
			trial.Step(0, 1, api.StepLoad, word, word), trial.Step(0, 2, api.StepLoad, -4, -4)}},
		{[]int{0, 1, 1, 0, 0, 0, 0}, [][]api.Call{{keptCall(0, 9)}, {keptCall(70, -4)}}, [][]api.Answer{{fails}, {fails}}, []api.Step{
			load, trial.Step(1, 1, api.StepLoad, 0, 0), trial.Step(1, 1, api.StepCas, 0, 5), trial.Step(1, -1, api.StepBuild, 70, -4),
			trial.Step(0, 1, api.StepCas, 5, 5), trial.Step(0, 1, api.StepLoad, 5, 5),
			trial.Step(1, 0, api.StepLoad, 77, 77), trial.Step(1, 2, api.StepStore, 0, -4), trial.Step(1, 1, api.StepStore, 5, word),
			trial.Step(0, 1, api.StepWake, 0, 0), trial.Step(0, 1, api.StepLoad, word, word), trial.Step(0, 2, api.StepLoad, -4, -4)}},
		{nil, [][]api.Call{{{Op: 1}}}, [][]api.Answer{{again}}, []api.Step{
			load, trial.Step(0, 1, api.StepCas, 0, 1), trial.Step(0, -1, api.StepBuild, 0, 0), trial.Step(0, 0, api.StepLoad, 77, 77), trial.Step(0, 1, api.StepLoad, 1, 1),
			trial.Step(0, 2, api.StepStore, 0, 0), trial.Step(0, 1, api.StepStore, 1, 2+72*1024)}},
		{[]int{0, 0, 0, 0}, [][]api.Call{{keptCall(api.ErrStuck, 0), keptCall(0, 9)}, {keptCall(0, 9)}}, [][]api.Answer{{stuck, stuck}, {stuck}}, []api.Step{
			load, trial.Step(0, 1, api.StepCas, 0, 1), trial.Step(0, -1, api.StepBuild, 4, 0), trial.Step(0, 0, api.StepLoad, 77, 77),
			trial.Step(1, 1, api.StepLoad, 1, 1), trial.Step(-1, -1, api.StepStuck, 0, 0)}},
	} {
		if told := keptBehind(x.scripts...).Play(x.schedule); !slices.Equal(trial.Bare(told.Trace), x.want) || !trial.Same(told.Answers, x.answers) {
			t.Errorf("%d: %v", i, told)
		}
	}
}

// a note is no turn: it stands right behind what the thread did before, also ahead of its first step and behind its last one
func TestNote(t *testing.T) {
	note := func(n int, then func() trial.Next) trial.Next { return trial.Note(api.StepClose, n, -n, then) }
	g := trial.Game{Cells: []int{5}, Scripts: [][]api.Call{{{}}, {{}}}, Call: func(who int, c api.Call) trial.Next {
		return note(1, func() trial.Next {
			return trial.Load(0, func(int) trial.Next {
				return note(2, func() trial.Next { return note(3, func() trial.Next { return trial.Over(api.OK, who) }) })
			})
		})
	}}
	closes := func(thread, n int) api.Step { return trial.Step(thread, -1, api.StepClose, n, -n) }
	want := []api.Step{
		trial.Begin(0, 0), closes(0, 1), trial.Begin(1, 0), closes(1, 1),
		trial.Step(1, 0, api.StepLoad, 5, 5), closes(1, 2), closes(1, 3), trial.End(1, 0, 0),
		trial.Step(0, 0, api.StepLoad, 5, 5), closes(0, 2), closes(0, 3), trial.End(0, 0, 0),
	}
	if told := g.Play([]int{1}); !slices.Equal(told.Trace, want) || !trial.Same(told.Answers, [][]api.Answer{trial.Values(0), trial.Values(1)}) {
		t.Error(told)
	}
}
