package play_test

import (
	"math"
	"slices"
	"sync"
	"testing"

	"butler/api"
	"butler/play"
	"butler/turn"
)

func TestCheck(t *testing.T) {
	ran := turn.New(nil)
	ran.Run(nil)
	fine, long := make([]api.Call, api.MaxCalls), make([]api.Call, api.MaxCalls+1)
	eight := slices.Repeat([][]api.Call{fine}, api.MaxThreads)
	for i, x := range []struct {
		w       *turn.World
		scripts [][]api.Call
		want    api.Errno
	}{
		{turn.New(nil), [][]api.Call{nil}, api.OK},
		{turn.New(nil), eight, api.OK},
		{turn.New(nil), nil, api.ErrArg},
		{turn.New(nil), append(slices.Clone(eight), nil), api.ErrArg},
		{nil, eight, api.ErrArg},
		{ran, eight, api.ErrArg},
		{turn.New(nil), [][]api.Call{fine, long}, api.ErrLong},
		{turn.New(nil), append(slices.Clone(eight), long), api.ErrLong},
		{nil, [][]api.Call{long}, api.ErrLong},
		{ran, [][]api.Call{long}, api.ErrLong},
	} {
		if e := play.Check(x.w, x.scripts); e != x.want {
			t.Errorf("%d: error %d", i, e)
		}
		if x.w == nil || x.w.Ran() {
			continue
		}
		if e := play.CheckScripts(x.scripts); e != x.want {
			t.Errorf("%d, whatever the world: error %d", i, e)
		}
	}
}

func TestWhich(t *testing.T) {
	for _, x := range [][3]int{
		{0, 1, 0}, {5, 1, 0}, {-5, 1, 0}, {0, 3, 0}, {2, 3, 2}, {3, 3, 0}, {7, 3, 1}, {-1, 3, 2}, {-3, 3, 0}, {-7, 3, 2},
		{math.MaxInt, 10, 7}, {math.MinInt, 10, 2}, {math.MinInt, math.MaxInt, math.MaxInt - 1},
	} {
		if got := play.Which(x[0], x[1]); got != x[2] {
			t.Errorf("%d of %d: %d", x[0], x[1], got)
		}
	}
}

// of no world the threads are all there at one time: each waits till all have come
func TestRunFreely(t *testing.T) {
	var all sync.WaitGroup
	all.Add(api.MaxThreads)
	scripts := slices.Repeat([][]api.Call{{{A: 5}, {Op: int(api.ErrStuck)}, {A: 6}}}, api.MaxThreads)
	a := play.Run(nil, scripts, func(x *turn.Thread, call api.Call) api.Answer {
		if call.A == 5 {
			all.Done()
			all.Wait()
		}
		return api.Answer{Code: api.Errno(call.Op), Value: call.A + 10*x.Id()}
	})
	for i, got := range a {
		if !slices.Equal(got, []api.Answer{{Value: 5 + 10*i}, {Code: api.ErrStuck, Value: 10 * i}, {Code: api.ErrStuck}}) {
			t.Error(i, got)
		}
	}
	if len(a) != api.MaxThreads {
		t.Error(a)
	}
}

// a call answers its Op as code and its A as value: so all codes can be tried
func TestRun(t *testing.T) {
	w := turn.New([]int{1})
	scripts := [][]api.Call{{{Op: 0, A: 5}, {Op: 7, A: 6}}, {{Op: 0, A: 8}, {Op: int(api.ErrStuck)}, {Op: 0, A: 9}}, {}}
	c := w.Cell()
	a := play.Run(w, scripts, func(x *turn.Thread, call api.Call) api.Answer {
		x.Turn(c, api.StepLoad)
		x.Did(call.A, call.A)
		return api.Answer{Code: api.Errno(call.Op), Value: call.A}
	})
	stuck := api.Answer{Code: api.ErrStuck}
	if want := [][]api.Answer{{{Value: 5}, {Code: 7, Value: 6}}, {{Value: 8}, stuck, stuck}, {}}; !slices.EqualFunc(a, want, slices.Equal[[]api.Answer]) {
		t.Error(a)
	}
	note := func(thread, op, old, next int) api.Step {
		return api.Step{Thread: thread, Cell: -1, Op: op, Old: old, New: next}
	}
	load := func(thread, v int) api.Step {
		return api.Step{Thread: thread, Cell: c, Op: api.StepLoad, Old: v, New: v}
	}
	want := []api.Step{
		note(0, api.StepBegin, 0, 0), note(1, api.StepBegin, 0, 0),
		load(1, 8), note(1, api.StepEnd, 0, 0), note(1, api.StepBegin, 1, 0),
		load(0, 5), note(0, api.StepEnd, 0, 0), note(0, api.StepBegin, 1, 0),
		load(1, 0), note(1, api.StepEnd, 1, 4),
		load(0, 6), note(0, api.StepEnd, 1, 7),
	}
	if !slices.Equal(w.Trace(), want) {
		t.Error(w.Trace())
	}
}
