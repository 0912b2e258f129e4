package trial_test

import (
	"slices"
	"testing"

	"butler/api"
	"butler/cell"
	"butler/play"
	"butler/trial"
	"butler/turn"
)

// right is a Play of one cell, to which each call adds its A.
func right(w *turn.World, scripts [][]api.Call) ([][]api.Answer, api.Errno) {
	if e := play.Check(w, scripts); e != api.OK {
		return nil, e
	}
	return adds(w, scripts), api.OK
}

func adds(w *turn.World, scripts [][]api.Call) [][]api.Answer {
	c := cell.New(w, 0)
	return play.Run(w, scripts, func(t *turn.Thread, x api.Call) api.Answer { return api.Answer{Value: c.Add(t, x.A)} })
}

// none is a Play that refuses all, since something else is wrong.
func none(w *turn.World, scripts [][]api.Call) ([][]api.Answer, api.Errno) {
	return noneBy(api.ErrArg)(w, scripts)
}

// noneBy does so by that error.
func noneBy(other api.Errno) trial.Player {
	return func(w *turn.World, scripts [][]api.Call) ([][]api.Answer, api.Errno) {
		if e := play.Check(w, scripts); e != api.OK {
			return nil, e
		}
		return nil, other
	}
}

func TestTell(t *testing.T) {
	scripts := [][]api.Call{calls(1, 5, 1), calls(1, 7, 1)}
	told, e := trial.Player(right).Tell([]int{1}, scripts)
	want := trial.Told{Trace: []api.Step{
		trial.Begin(0, 0), trial.Begin(1, 0),
		trial.Step(1, 0, api.StepAdd, 0, 7), trial.End(1, 0, 0), trial.Step(0, 0, api.StepAdd, 7, 12), trial.End(0, 0, 0),
	}, Answers: [][]api.Answer{trial.Values(12), trial.Values(7)}}
	if e != api.OK || !told.Same(want) {
		t.Error(told, e)
	}
	if n := told.Count(func(s api.Step) bool { return s.Op == api.StepAdd }); n != 2 {
		t.Error(n)
	}
	for i, other := range []trial.Told{
		{Trace: want.Trace[1:], Answers: want.Answers}, {Trace: want.Trace, Answers: want.Answers[1:]}, {Trace: want.Trace, Answers: want.Answers, Stuck: true},
	} {
		if told.Same(other) {
			t.Error(i)
		}
	}
	if _, e := trial.Player(none).Tell(nil, scripts); e != api.ErrArg {
		t.Error(e)
	}
}

// no notes, and it goes on where the world is stuck
func TestCalls(t *testing.T) {
	w := turn.New([]int{1})
	c := cell.New(w, 0)
	got := trial.Calls(w, [][]api.Call{trial.Ops(1, 2, 2), nil, trial.Ops(1)}, func(x *turn.Thread, call api.Call) api.Answer {
		if call.Op == 1 {
			return api.Answer{Value: c.Add(x, 1)}
		}
		return api.Answer{Value: trial.Number(c.Until(x, 2))}
	})
	want := []api.Step{
		trial.Step(2, 0, api.StepAdd, 0, 1), trial.Step(0, 0, api.StepAdd, 1, 2), trial.Step(0, 0, api.StepLoad, 2, 2),
		trial.Step(-1, -1, api.StepStuck, 0, 0), trial.Step(0, 0, api.StepLoad, 2, 2),
	}
	if !slices.Equal(w.Trace(), want) || !trial.Same(got, [][]api.Answer{trial.Values(2, 0, 0), nil, trial.Values(1)}) {
		t.Error(w.Trace(), got)
	}
}

func TestRefuses(t *testing.T) {
	fine := calls(1, 5, 2)
	if err := trial.Player(right).Refuses(fine); err != nil {
		t.Error(err)
	}
	if err := trial.Player(none).RefusesAll(fine); err != nil {
		t.Error(err)
	}
	for _, e := range []api.Errno{api.ErrArg, api.ErrLong, api.ErrRecipe} {
		first := trial.Player(func(*turn.World, [][]api.Call) ([][]api.Answer, api.Errno) { return nil, e })
		if err := noneBy(e).RefusesBy(e, fine); err != nil || first.RefusesBy(e, fine) == nil || noneBy(e+1).RefusesBy(e, fine) == nil {
			t.Error(e, err)
		}
	}
	for i, p := range []trial.Player{
		none,
		func(w *turn.World, scripts [][]api.Call) ([][]api.Answer, api.Errno) { // short ones first
			if len(scripts) == 0 || len(scripts) > api.MaxThreads {
				return nil, api.ErrArg
			}
			return right(w, scripts)
		},
		func(w *turn.World, scripts [][]api.Call) ([][]api.Answer, api.Errno) { // the world first
			if w == nil || w.Ran() {
				return nil, api.ErrArg
			}
			return right(w, scripts)
		},
		func(w *turn.World, scripts [][]api.Call) ([][]api.Answer, api.Errno) { // no world at all
			if w == nil {
				return adds(w, scripts), api.OK
			}
			return right(w, scripts)
		},
		func(w *turn.World, scripts [][]api.Call) ([][]api.Answer, api.Errno) { // a world that ran
			if w.Ran() {
				w = turn.New(nil)
			}
			return right(w, scripts)
		},
		func(w *turn.World, scripts [][]api.Call) ([][]api.Answer, api.Errno) { // it looks at eight scripts only
			return right(w, scripts[:min(len(scripts), api.MaxThreads)])
		},
		func(w *turn.World, scripts [][]api.Call) ([][]api.Answer, api.Errno) { // answers beside an error
			if a, e := right(w, scripts); e == api.OK {
				return a, e
			}
			return make([][]api.Answer, 1), play.Check(w, scripts)
		},
		func(w *turn.World, scripts [][]api.Call) ([][]api.Answer, api.Errno) { // it runs first
			e := play.Check(w, scripts)
			if w == nil {
				return nil, e
			}
			a := adds(w, scripts)
			if e != api.OK {
				a = nil
			}
			return a, e
		},
	} {
		if p.Refuses(fine) == nil {
			t.Errorf("the wrong Play %d passes", i)
		}
		if i > 0 && p.RefusesAll(fine) == nil {
			t.Errorf("the wrong Play %d passes as one that refuses all", i)
		}
	}
}

func TestKeeps(t *testing.T) {
	fine := calls(1, 5, 3)
	if err := trial.Player(right).Keeps(fine); err != nil {
		t.Error(err)
	}
	for i, spoil := range []func(scripts [][]api.Call, a [][]api.Answer){
		func(scripts [][]api.Call, a [][]api.Answer) { scripts[0][0].B = 1 },
		func(scripts [][]api.Call, a [][]api.Answer) { scripts[1][2].Op = 0 },
		func(scripts [][]api.Call, a [][]api.Answer) { _ = append(scripts[1], api.Call{}) },
		func(scripts [][]api.Call, a [][]api.Answer) { _ = append(scripts, nil) },
		func(scripts [][]api.Call, a [][]api.Answer) { scripts[0] = slices.Clone(scripts[0]) },
		func(scripts [][]api.Call, a [][]api.Answer) { scripts[3] = scripts[1] },
		func(scripts [][]api.Call, a [][]api.Answer) { scripts[2] = []api.Call{} },
		func(scripts [][]api.Call, a [][]api.Answer) { a[3] = a[0] },
	} {
		p := trial.Player(func(w *turn.World, scripts [][]api.Call) ([][]api.Answer, api.Errno) {
			a, e := right(w, scripts)
			spoil(scripts, a)
			return a, e
		})
		if p.Keeps(fine) == nil {
			t.Errorf("the wrong Play %d passes", i)
		}
	}
	if trial.Player(none).Keeps(fine) == nil {
		t.Error("a Play that refuses passes")
	}
}

func TestStrange(t *testing.T) {
	for most := 1; most < 10; most++ {
		for _, op := range trial.Strange(most) {
			if 1 <= op && op <= most {
				t.Error(most, op)
			}
		}
	}
}
