package kept_test

import (
	"math"
	"slices"
	"testing"

	"butler/api"
	"butler/cell"
	"butler/kept"
	"butler/trial"
	"butler/turn"
)

// gets is a Get whose work is a look at a cell of its own, behind those of what is kept, and comes to the Code A and the Value B.
func gets(k *kept.Kept, other *cell.Cell) func(t *turn.Thread, c api.Call) api.Answer {
	return func(t *turn.Thread, c api.Call) api.Answer {
		return k.Get(t, func() api.Answer {
			other.Load(t)
			return api.Answer{Code: api.Errno(c.A), Value: c.B}
		})
	}
}

// told is the same by the model.
func told(scripts [][]api.Call) trial.Game {
	return trial.Game{Cells: []int{0, 0, 9}, Scripts: scripts, Call: func(who int, c api.Call) trial.Next {
		return trial.Kept{}.Get(who, func(then func(x api.Answer) trial.Next) trial.Next {
			return trial.Load(2, func(int) trial.Next { return then(api.Answer{Code: api.Errno(c.A), Value: c.B}) })
		}, func(x api.Answer) trial.Next { return trial.Over(x.Code, x.Value) })
	}}
}

// by hand: the first one works it out, another one waits, a late one looks twice
func TestGet(t *testing.T) {
	w := turn.New([]int{0, 0, 1, 0, 0, 0, 1, 1})
	k, other := kept.New(w), cell.New(w, 9)
	got := trial.Calls(w, [][]api.Call{{{A: 131, B: -7}, {}}, {{B: 5}}}, gets(k, other))
	const done = 2 + 131*1024
	want := []api.Step{
		trial.Step(0, 0, api.StepLoad, 0, 0), trial.Step(0, 0, api.StepCas, 0, 1), trial.Step(1, 0, api.StepLoad, 1, 1), trial.Step(0, 2, api.StepLoad, 9, 9),
		trial.Step(0, 1, api.StepStore, 0, -7), trial.Step(0, 0, api.StepStore, 1, done),
		trial.Step(1, 0, api.StepWake, 0, 0), trial.Step(1, 0, api.StepLoad, done, done),
		trial.Step(0, 0, api.StepLoad, done, done), trial.Step(1, 1, api.StepLoad, -7, -7), trial.Step(0, 1, api.StepLoad, -7, -7),
	}
	x := api.Answer{Code: api.ErrBoxNeed, Value: -7}
	if !slices.Equal(w.Trace(), want) || !trial.Same(got, [][]api.Answer{{x, x}, {x}}) {
		t.Error(got, w.Trace())
	}
}

// what was stuck is not kept: it stays as it is, and who worked it out is told that it asks for itself
func TestStuck(t *testing.T) {
	w := turn.New(nil)
	k, other := kept.New(w), cell.New(w, 9)
	got := trial.Calls(w, [][]api.Call{{{A: int(api.ErrStuck)}, {}, {}}}, gets(k, other))
	want := []api.Step{trial.Step(0, 0, api.StepLoad, 0, 0), trial.Step(0, 0, api.StepCas, 0, 1), trial.Step(0, 2, api.StepLoad, 9, 9), trial.Step(0, 0, api.StepLoad, 1, 1), trial.Step(0, 0, api.StepLoad, 1, 1)}
	if !slices.Equal(w.Trace(), want) || !trial.Same(got, [][]api.Answer{trial.Codes(api.ErrStuck, api.ErrOnceAgain, api.ErrOnceAgain)}) {
		t.Error(got, w.Trace())
	}
}

// in all orders, against the model
func TestInAllOrders(t *testing.T) {
	for _, scripts := range [][][]api.Call{
		{{{A: 70, B: math.MinInt}}, {{B: math.MaxInt}}},
		{{{A: int(api.ErrStuck)}}, {{B: 5}}},
		{{{A: 1}, {A: 2}}, {{A: 3}, {B: 4}}},
	} {
		many := 0
		for schedule := range told(scripts).Schedules {
			w := turn.New(schedule)
			k, other := kept.New(w), cell.New(w, 9)
			want := told(scripts).Play(schedule)
			got := trial.Calls(w, scripts, gets(k, other))
			if !slices.Equal(w.Trace(), trial.Bare(want.Trace)) || !trial.Same(got, want.Answers) {
				t.Fatal(schedule, scripts, got, w.Trace())
			}
			many++
		}
		if many < 10 {
			t.Errorf("%v: %d orders", scripts, many)
		}
	}
}
