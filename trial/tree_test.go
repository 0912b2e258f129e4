package trial_test

import (
	"slices"
	"testing"

	"butler/api"
	"butler/trial"
)

func ask(scope, key int) api.Call { return api.Call{Op: 1, A: scope, B: key} }
func open(scope int) api.Call     { return api.Call{Op: 2, A: scope} }
func shut(scope int) api.Call     { return api.Call{Op: 3, A: scope} }

func TestScopeCells(t *testing.T) {
	l := []api.Recipe{{}, {Level: 1}, {}, {Level: 3}}
	s := trial.Root(l)
	got := []int{s.Number, s.Kept(0).At, s.Kept(2).At, s.Chain().At, s.Gate().At, s.Done().At, s.Done().Many, s.Kids().At, s.Kids().Many, s.Result(), s.End()}
	if !slices.Equal(s.Keys, []int{0, 2}) || !slices.Equal(got, []int{0, 51, 53, 55, 57, 58, 2, 68, 50, 270, 271}) || len(s.Cells()) != 272-51 {
		t.Error(s, got, len(s.Cells()))
	}
	none := trial.Scope{Number: 4, At: 100}
	if none.Done().At != 101 || none.Kids().At != 103 || none.End() != 306 || len(none.Cells()) != 207 {
		t.Error(none.Done(), none.Kids(), none.End())
	}
}

// tree are recipes on two Levels, whose closings fail and panic.
func tree() []api.Recipe {
	return []api.Recipe{{Value: 5}, {Value: 7, Level: 1, Needs: []int{0}, End: 1}, {Value: 1, Level: 1, Needs: []int{1}, End: 2}, {Value: 2, Needs: []int{0}}, {Value: 1, Needs: []int{4}}}
}

// by hand: one thread, all answers
func TestTreeAlone(t *testing.T) {
	for i, x := range []struct {
		calls []api.Call
		want  []api.Answer
	}{
		{[]api.Call{ask(0, 3), ask(0, 4), ask(0, 1), ask(1, 0), ask(50, 0), ask(-1, 0), {Op: 4}}, []api.Answer{
			{Value: 7}, {Code: api.ErrBoxRing, Value: 4}, {Code: api.ErrHouseKey}, {Code: api.ErrHouseScope}, {Code: api.ErrHouseScope}, {Code: api.ErrHouseScope}, {Code: api.ErrArg}}},
		{[]api.Call{open(0), ask(1, 2), ask(1, 9), shut(1), shut(1), ask(1, 1), open(1), open(0), shut(0), shut(2)}, []api.Answer{
			{Value: 1}, {Value: 13}, {Code: api.ErrHouseKey}, {Code: api.ErrOncePanic, Value: 2}, {Code: api.ErrOncePanic, Value: 2}, {Code: api.ErrScopeShut}, {Code: api.ErrScopeShut}, {Value: 2}, {}, {}}},
		{[]api.Call{open(0), open(1), open(2), open(3), open(4), open(5), open(6), open(7)}, append(trial.Values(1, 2, 3, 4, 5, 6, 7), api.Answer{Code: api.ErrBig})},
	} {
		g := trial.Tree(tree(), [][]api.Call{x.calls})
		for range 2 { // the second time nothing is left of the first one
			if told := g.Play(nil); !slices.Equal(told.Answers[0], x.want) || told.Stuck {
				t.Error(i, told)
			}
		}
	}
	told := trial.Tree(tree(), [][]api.Call{slices.Repeat([]api.Call{open(0)}, api.MaxScopes)}).Play(nil)
	if a := told.Answers[0]; a[48] != (api.Answer{Value: 49}) || a[49] != (api.Answer{Code: api.ErrBig}) {
		t.Error(a)
	}
}

// by hand: each step of an Open and of a Close
func TestTreeSteps(t *testing.T) {
	told := trial.Tree([]api.Recipe{{Level: 1}}, [][]api.Call{{open(0), shut(1)}}).Play(nil)
	const v, gate, kids, head, kid = 1 << 32, 51, 54, 155, 258
	var steps []api.Step
	for _, x := range [][4]int{
		{1, api.StepLoad, 1, 1}, {gate, api.StepLoad, 0, 0}, {gate, api.StepCas, 0, 2}, {0, api.StepAdd, 1, 2},
		{kids, api.StepLoad, 1, 1}, {kids + 1, api.StepLoad, 2, 2}, {kids, api.StepCas, 1, v + 2}, {kids + 2, api.StepStore, 0, 1},
		{head + 1, api.StepStore, 0, 1}, {head, api.StepLoad, 0, 0}, {head + 2, api.StepStore, 0, 0}, {head, api.StepCas, 0, v + 1},
		{2, api.StepStore, 0, 1}, {gate, api.StepLoad, 2, 2}, {gate, api.StepCas, 2, 0},
		{2, api.StepLoad, 1, 1}, {kid + 3, api.StepLoad, 0, 0}, {kid + 3, api.StepCas, 0, 1}, {kid + 3, api.StepLoad, 1, 1},
		{kid + 111, api.StepLoad, 0, 0}, {kid + 7, api.StepLoad, 0, 0}, {kid + 212, api.StepStore, 0, 0}, {kid + 213, api.StepStore, 0, 1},
	} {
		steps = append(steps, trial.Step(0, x[0], x[1], x[2], x[3]))
	}
	if !slices.Equal(trial.Bare(told.Trace), steps) {
		t.Error(told)
	}
}

// who closes second waits for who closes first
func TestTreeTogether(t *testing.T) {
	told := trial.Tree([]api.Recipe{{End: 1}}, [][]api.Call{{ask(0, 0), shut(0)}, {shut(0)}}).Play(slices.Concat(slices.Repeat([]int{0}, 25), slices.Repeat([]int{1}, 50)))
	closed := api.Answer{Code: api.ErrOnceFail, Value: 0}
	if !trial.Same(told.Answers, [][]api.Answer{{{}, closed}, {closed}}) || told.Count(trial.Wakes) != 1 || told.Stuck {
		t.Error(told)
	}
}
