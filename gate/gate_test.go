package gate_test

import (
	"math"
	"slices"
	"testing"

	"butler/api"
	"butler/cell"
	"butler/gate"
	"butler/trial"
	"butler/turn"
)

// short names for what nearly every row is made of
func load(thread, v int) api.Step   { return trial.Step(thread, cellGate, api.StepLoad, v, v) }
func enters(thread, v int) api.Step { return trial.Step(thread, cellGate, api.StepCas, v, v+2) }
func leaves(thread, v int) api.Step { return trial.Step(thread, cellGate, api.StepCas, v, v-2) }
func shuts(thread, v int) api.Step  { return trial.Step(thread, cellGate, api.StepCas, v, v+1) }
func fails(thread, v int) api.Step  { return trial.Step(thread, cellGate, api.StepCas, v, v) }
func wakes(thread int) api.Step     { return trial.Step(thread, cellGate, api.StepWake, 0, 0) }

var (
	nobody = trial.Step(-1, -1, api.StepStuck, 0, 0)

	fine  = api.Answer{}
	first = api.Answer{Value: 1}
	shut  = api.Answer{Code: api.ErrGateShut}
	empty = api.Answer{Code: api.ErrGateEmpty}
	stuck = api.Answer{Code: api.ErrStuck}
	arg   = api.Answer{Code: api.ErrArg}

	ops = trial.Ops
)

func answers(l ...api.Answer) []api.Answer { return l }

// plays carries a Play out that may not fail, and holds it against the model.
func plays(t *testing.T, schedule []int, scripts [][]api.Call) trial.Told {
	t.Helper()
	got, e := trial.Player(gate.Play).Tell(schedule, scripts)
	if want := model(scripts).Play(schedule); e != api.OK || !got.Same(want) {
		t.Fatalf("%v of %v: error %d,\n%v\nis to be\n%v", schedule, scripts, e, got, want)
	}
	return got
}

// does carries the gate's own calls out.
func does(g *gate.Gate, t *turn.Thread, op int) api.Answer {
	switch op {
	case 1:
		return api.Answer{Code: g.Enter(t)}
	case 2:
		return api.Answer{Code: g.Leave(t)}
	}
	first, e := g.Shut(t)
	return api.Answer{Code: e, Value: trial.Number(first)}
}

// P6.1

// New makes one cell, in which 0 stands
func TestNew(t *testing.T) {
	for _, ahead := range []int{0, 1, 4} {
		w := turn.New(nil)
		for range ahead {
			cell.New(w, 9)
		}
		g := gate.New(w)
		if behind := w.Cell(); behind != ahead+1 {
			t.Errorf("behind %d cells a gate takes %d", ahead, behind-ahead)
		}
		got := trial.Calls(w, [][]api.Call{ops(1)}, func(x *turn.Thread, c api.Call) api.Answer { return does(g, x, c.Op) })
		want := []api.Step{trial.Step(0, ahead, api.StepLoad, 0, 0), trial.Step(0, ahead, api.StepCas, 0, 2)}
		if !slices.Equal(w.Trace(), want) || !trial.Same(got, [][]api.Answer{{fine}}) {
			t.Errorf("behind %d cells: %v, %v", ahead, w.Trace(), got)
		}
	}
}

// two gates of a world know nothing of each other
func TestTwoGates(t *testing.T) {
	w := turn.New(nil)
	a, b := gate.New(w), gate.New(w)
	var got []api.Answer
	w.Run([]func(*turn.Thread){func(x *turn.Thread) {
		got = append(got, does(a, x, 1), does(b, x, 2), does(b, x, 3), does(a, x, 1), does(b, x, 1))
		got = append(got, does(a, x, 2), does(a, x, 3), does(b, x, 3), does(a, x, 2), does(a, x, 3))
	}})
	want := answers(fine, empty, first, fine, shut, fine, stuck, fine, fine, fine) // who is told that it is stuck has shut it all the same
	if !slices.Equal(got, want) || !w.Stuck() {
		t.Error(got)
	}
}

// by hand: the gate's own calls (1 Enter, 2 Leave, 3 Shut), their steps, and what they answer. They go on where the world is stuck, as no Play does.
func TestCalls(t *testing.T) {
	for _, x := range []struct {
		name     string
		schedule []int
		scripts  [][]api.Call
		want     []api.Step
		answers  [][]api.Answer
	}{
		{"Enter", nil, [][]api.Call{ops(1)}, []api.Step{load(0, 0), enters(0, 0)}, [][]api.Answer{{fine}}},
		{"Enter where some are in", nil, [][]api.Call{ops(1, 1, 1)}, []api.Step{load(0, 0), enters(0, 0), load(0, 2), enters(0, 2), load(0, 4), enters(0, 4)}, [][]api.Answer{{fine, fine, fine}}},
		{"Enter where it is shut", nil, [][]api.Call{ops(3, 1, 1)}, []api.Step{load(0, 0), shuts(0, 0), load(0, 1), load(0, 1), load(0, 1)}, [][]api.Answer{{first, shut, shut}}},
		{"Leave with nobody in", nil, [][]api.Call{ops(2, 2)}, []api.Step{load(0, 0), load(0, 0)}, [][]api.Answer{{empty, empty}}},
		{"Leave with nobody in, where it is shut", nil, [][]api.Call{ops(3, 2)}, []api.Step{load(0, 0), shuts(0, 0), load(0, 1), load(0, 1)}, [][]api.Answer{{first, empty}}},
		{"in and out", nil, [][]api.Call{ops(1, 1, 2, 1, 2, 2, 2)},
			[]api.Step{load(0, 0), enters(0, 0), load(0, 2), enters(0, 2), load(0, 4), leaves(0, 4), load(0, 2), enters(0, 2), load(0, 4), leaves(0, 4), load(0, 2), leaves(0, 2), load(0, 0)},
			[][]api.Answer{{fine, fine, fine, fine, fine, fine, empty}}},
		{"Shut with nobody in", nil, [][]api.Call{ops(3)}, []api.Step{load(0, 0), shuts(0, 0), load(0, 1)}, [][]api.Answer{{first}}},
		{"Shut with nobody in any more", nil, [][]api.Call{ops(1, 2, 3)}, []api.Step{load(0, 0), enters(0, 0), load(0, 2), leaves(0, 2), load(0, 0), shuts(0, 0), load(0, 1)}, [][]api.Answer{{fine, fine, first}}},
		{"Shut behind a Shut", nil, [][]api.Call{ops(3, 3, 3)}, []api.Step{load(0, 0), shuts(0, 0), load(0, 1), load(0, 1), load(0, 1), load(0, 1), load(0, 1)}, [][]api.Answer{{first, fine, fine}}},

		{"Shut that waits for a Leave", []int{0, 0, 1, 1, 1}, [][]api.Call{ops(1, 2), ops(3)},
			[]api.Step{load(0, 0), enters(0, 0), load(1, 2), shuts(1, 2), load(1, 3), load(0, 3), leaves(0, 3), wakes(1), load(1, 1)}, [][]api.Answer{{fine, fine}, {first}}},
		{"Shut that is woken by each Leave", []int{0, 0, 0, 0, 1, 1, 1}, [][]api.Call{ops(1, 1, 2, 2), ops(3)},
			[]api.Step{load(0, 0), enters(0, 0), load(0, 2), enters(0, 2), load(1, 4), shuts(1, 4), load(1, 5), load(0, 5), leaves(0, 5), wakes(1), load(0, 3), load(1, 3), leaves(0, 3), wakes(1), load(1, 1)},
			[][]api.Answer{{fine, fine, fine, fine}, {first}}},
		{"Shut that sleeps through a Leave", []int{0, 0, 0, 0, 1, 1, 1, 0, 0, 0, 0}, [][]api.Call{ops(1, 1, 2, 2), ops(3)},
			[]api.Step{load(0, 0), enters(0, 0), load(0, 2), enters(0, 2), load(1, 4), shuts(1, 4), load(1, 5), load(0, 5), leaves(0, 5), load(0, 3), leaves(0, 3), wakes(1), load(1, 1)},
			[][]api.Answer{{fine, fine, fine, fine}, {first}}},
		{"a Leave that is not done wakes nobody", []int{0, 0, 0, 0, 2, 2, 2, 0, 1, 1, 1, 1}, [][]api.Call{ops(1, 1, 2), ops(2), ops(3)},
			[]api.Step{load(0, 0), enters(0, 0), load(0, 2), enters(0, 2), load(2, 4), shuts(2, 4), load(2, 5), load(0, 5), load(1, 5), leaves(1, 5), wakes(2), load(2, 3),
				fails(0, 3), load(0, 3), leaves(0, 3), wakes(2), load(2, 1)},
			[][]api.Answer{{fine, fine, fine}, {fine}, {first}}},
		{"two Shuts that wait", []int{0, 0, 1, 1, 1, 1, 1}, [][]api.Call{ops(1, 2), ops(3), ops(3)},
			[]api.Step{load(0, 0), enters(0, 0), load(1, 2), shuts(1, 2), load(1, 3), load(2, 3), load(2, 3), load(0, 3), leaves(0, 3), wakes(1), wakes(2), load(1, 1), load(2, 1)},
			[][]api.Answer{{fine, fine}, {first}, {fine}}},
		{"the second Shut comes back first", []int{0, 0, 1, 1, 1, 0, 0, 1, 1}, [][]api.Call{ops(1, 2), ops(3), ops(3)},
			[]api.Step{load(0, 0), enters(0, 0), load(1, 2), shuts(1, 2), load(1, 3), load(0, 3), leaves(0, 3), load(2, 1), load(2, 1), wakes(1), load(1, 1)},
			[][]api.Answer{{fine, fine}, {first}, {fine}}},

		{"Shut that nobody wakes", nil, [][]api.Call{ops(1, 3)}, []api.Step{load(0, 0), enters(0, 0), load(0, 2), shuts(0, 2), load(0, 3), nobody}, [][]api.Answer{{fine, stuck}}},
		{"Shuts that nobody wakes", nil, [][]api.Call{ops(1, 3), ops(3)},
			[]api.Step{load(0, 0), load(1, 0), enters(0, 0), fails(1, 2), load(0, 2), load(1, 2), shuts(0, 2), fails(1, 3), load(0, 3), load(1, 3), load(1, 3), nobody}, [][]api.Answer{{fine, stuck}, {stuck}}},
		{"in a world that is stuck", nil, [][]api.Call{ops(1, 3, 3, 1, 2, 3, 2)},
			[]api.Step{load(0, 0), enters(0, 0), load(0, 2), shuts(0, 2), load(0, 3), nobody, load(0, 3), load(0, 3), load(0, 3), load(0, 3), leaves(0, 3), load(0, 1), load(0, 1), load(0, 1)},
			[][]api.Answer{{fine, stuck, stuck, shut, fine, fine, empty}}},

		{"Enter whose Cas finds another number", []int{0, 1, 1, 0}, [][]api.Call{ops(1), ops(1)},
			[]api.Step{load(0, 0), load(1, 0), enters(1, 0), fails(0, 2), load(0, 2), enters(0, 2)}, [][]api.Answer{{fine}, {fine}}},
		{"Enter whose Cas finds it shut", []int{0, 1, 1, 0, 0}, [][]api.Call{ops(1), ops(3)},
			[]api.Step{load(0, 0), load(1, 0), shuts(1, 0), fails(0, 1), load(0, 1), load(1, 1)}, [][]api.Answer{{shut}, {first}}},
		{"Enter whose Cas finds who left and came back", []int{0, 0, 1, 0, 0, 0, 0, 1}, [][]api.Call{ops(1, 2, 1), ops(1)},
			[]api.Step{load(0, 0), enters(0, 0), load(1, 2), load(0, 2), leaves(0, 2), load(0, 0), enters(0, 0), enters(1, 2)}, [][]api.Answer{{fine, fine, fine}, {fine}}},
		{"Leave whose Cas finds another number", []int{0, 0, 0, 0, 0, 1, 1}, [][]api.Call{ops(1, 1, 2), ops(2)},
			[]api.Step{load(0, 0), enters(0, 0), load(0, 2), enters(0, 2), load(0, 4), load(1, 4), leaves(1, 4), fails(0, 2), load(0, 2), leaves(0, 2)}, [][]api.Answer{{fine, fine, fine}, {fine}}},
		{"Leave whose Cas finds nobody", []int{0, 0, 0, 1, 1}, [][]api.Call{ops(1, 2), ops(2)},
			[]api.Step{load(0, 0), enters(0, 0), load(0, 2), load(1, 2), leaves(1, 2), fails(0, 0), load(0, 0)}, [][]api.Answer{{fine, empty}, {fine}}},
		{"Leave whose Cas finds it shut", []int{0, 0, 0, 1, 1, 0, 0, 0}, [][]api.Call{ops(1, 2), ops(3)},
			[]api.Step{load(0, 0), enters(0, 0), load(0, 2), load(1, 2), shuts(1, 2), fails(0, 3), load(0, 3), leaves(0, 3), load(1, 1)}, [][]api.Answer{{fine, fine}, {first}}},
		{"Shut whose Cas finds another number, an Enter", []int{1, 0, 0, 1, 1, 1, 1}, [][]api.Call{ops(1, 2), ops(3)},
			[]api.Step{load(1, 0), load(0, 0), enters(0, 0), fails(1, 2), load(1, 2), shuts(1, 2), load(1, 3), load(0, 3), leaves(0, 3), wakes(1), load(1, 1)}, [][]api.Answer{{fine, fine}, {first}}},
		{"Shut whose Cas finds another number, a Leave", []int{0, 0, 1, 0, 0, 0, 0}, [][]api.Call{ops(1, 2), ops(3)},
			[]api.Step{load(0, 0), enters(0, 0), load(1, 2), load(0, 2), leaves(0, 2), fails(1, 0), load(1, 0), shuts(1, 0), load(1, 1)}, [][]api.Answer{{fine, fine}, {first}}},
		{"two Shuts at one time", []int{0, 1, 1, 0, 0, 0}, [][]api.Call{ops(3), ops(3)},
			[]api.Step{load(0, 0), load(1, 0), shuts(1, 0), fails(0, 1), load(0, 1), load(0, 1), load(1, 1)}, [][]api.Answer{{fine}, {first}}},
	} {
		w := turn.New(x.schedule)
		g := gate.New(w)
		got := trial.Calls(w, x.scripts, func(th *turn.Thread, c api.Call) api.Answer { return does(g, th, c.Op) })
		if !slices.Equal(w.Trace(), x.want) || !trial.Same(got, x.answers) {
			t.Errorf("%s: %v %v", x.name, w.Trace(), got)
		}
	}
}

// a free thread alone is answered as the steps say; it shuts a gate only with nobody in, or it would wait for ever
func TestFreely(t *testing.T) {
	r := trial.Row(1)
	for id := range 256 {
		g, free := gate.New(nil), turn.Free(id)
		in, isShut := 0, false
		for i := range 200 {
			op, want := r.One(1, 1, 2, 2), fine
			if in == 0 && i > 100 {
				op = r.One(1, 2, 3)
			}
			switch {
			case op == 1 && isShut:
				want = shut
			case op == 1:
				in++
			case op == 2 && in == 0:
				want = empty
			case op == 2:
				in--
			case !isShut:
				isShut, want = true, first
			}
			if got := does(g, free, op); got != want {
				t.Fatalf("the call %d, of Op %d, is answered %v, not %v", i, op, got, want)
			}
		}
	}
	g, free, many := gate.New(nil), turn.Free(7), 100000
	for _, op := range []int{1, 2} {
		for range many {
			if got := does(g, free, op); got != fine {
				t.Fatal(op, got)
			}
		}
	}
	if got := answers(does(g, free, 2), does(g, free, 3), does(g, free, 3)); !slices.Equal(got, answers(empty, first, fine)) {
		t.Error(got)
	}
}

// free Enters and Leaves at one time lose nobody
func TestFreelyTogether(t *testing.T) {
	const many, each = 8, 5000
	var none *turn.World
	g, refused := gate.New(nil), [many]int{}
	none.Run(slices.Repeat([]func(*turn.Thread){func(x *turn.Thread) {
		for range each {
			for _, op := range []int{1, 1, 2} {
				refused[x.Id()] += trial.Number(does(g, x, op) != fine)
			}
		}
	}}, many))
	free, left := turn.Free(0), 0
	for does(g, free, 2) == fine {
		left++
	}
	if left != many*each || refused != [many]int{} {
		t.Errorf("%d were in still, %v were refused", left, refused)
	}
}

// a free Shut waits till all who are in have left. Few times only: where there are fewer processors than threads, who waits freely takes much of the others' time.
func TestFreelyWaits(t *testing.T) {
	var none *turn.World
	for range 5 {
		g, work, seen := gate.New(nil), [2]int{}, 0
		var got [2]api.Answer
		for id := range work {
			g.Enter(turn.Free(id))
		}
		works := func(x *turn.Thread) { work[x.Id()] = 3; g.Leave(x) }
		none.Run([]func(*turn.Thread){
			works, works,
			func(x *turn.Thread) { got[0] = does(g, x, 3); seen = work[0] + work[1] },
			func(x *turn.Thread) { got[1] = does(g, x, 3) },
		})
		if seen != 6 || got[0].Code != api.OK || got[1].Code != api.OK || got[0].Value+got[1].Value != 1 {
			t.Errorf("it has seen %d, and was answered %v", seen, got)
		}
	}
}

// P6.2

// the chapter's examples
func TestExamples(t *testing.T) {
	for i, x := range []struct {
		scripts [][]api.Call
		answers [][]api.Answer
		want    []api.Step
	}{
		{[][]api.Call{ops(1, 2, 3)}, [][]api.Answer{{fine, fine, first}}, []api.Step{
			trial.Begin(0, 0), load(0, 0), enters(0, 0), trial.End(0, 0, 0), trial.Begin(0, 1), load(0, 2), leaves(0, 2), trial.End(0, 1, 0),
			trial.Begin(0, 2), load(0, 0), shuts(0, 0), load(0, 1), trial.End(0, 2, 0)}},
		{[][]api.Call{ops(3, 1, 2, 3)}, [][]api.Answer{{first, shut, empty, fine}}, []api.Step{
			trial.Begin(0, 0), load(0, 0), shuts(0, 0), load(0, 1), trial.End(0, 0, 0), trial.Begin(0, 1), load(0, 1), trial.End(0, 1, 60),
			trial.Begin(0, 2), load(0, 1), trial.End(0, 2, 61), trial.Begin(0, 3), load(0, 1), load(0, 1), trial.End(0, 3, 0)}},
		{[][]api.Call{ops(1, 3)}, [][]api.Answer{{fine, stuck}}, []api.Step{
			trial.Begin(0, 0), load(0, 0), enters(0, 0), trial.End(0, 0, 0), trial.Begin(0, 1), load(0, 2), shuts(0, 2), load(0, 3), nobody, trial.End(0, 1, 4)}},
		{[][]api.Call{ops(1, 2), ops(3)}, [][]api.Answer{{fine, fine}, {first}}, []api.Step{
			trial.Begin(0, 0), trial.Begin(1, 0), load(0, 0), load(1, 0), enters(0, 0), trial.End(0, 0, 0), trial.Begin(0, 1), fails(1, 2), load(0, 2), load(1, 2),
			leaves(0, 2), trial.End(0, 1, 0), fails(1, 0), load(1, 0), shuts(1, 0), load(1, 1), trial.End(1, 0, 0)}},
	} {
		if told := plays(t, nil, x.scripts); !trial.Same(told.Answers, x.answers) || !slices.Equal(told.Trace, x.want) {
			t.Errorf("%d: %v", i, told)
		}
	}
}

// many Plays, under many schedules, against the model
func TestPlay(t *testing.T) {
	r := trial.Row(2)
	kinds := []api.Answer{fine, first, shut, empty, stuck, arg}
	seen, stucks, woken, failed := make([]int, len(kinds)), 0, 0, 0
	for range 5000 {
		told := plays(t, r.Schedule(60), r.Scripts(r.One(1, 2, 3, api.MaxThreads), 6, 1, 1, 1, 2, 2, 2, 3, r.One(0, 1, 2, 3, 4, -1)))
		stucks += trial.Number(told.Stuck)
		woken += trial.Number(told.Count(trial.Wakes) > 0)
		failed += trial.Number(told.Count(trial.Fails) > 0)
		for i, x := range kinds {
			seen[i] += trial.Number(slices.Contains(slices.Concat(told.Answers...), x))
		}
	}
	if min(stucks, woken, failed, slices.Min(seen)) < 300 {
		t.Errorf("the Plays are too tame: %d stuck, %d woken, %d failed, answers %v", stucks, woken, failed, seen)
	}
}

// behind ErrStuck there is neither note nor step, not even of an Op that there is not
func TestBehindStuck(t *testing.T) {
	told := plays(t, nil, [][]api.Call{ops(1, 3, 2, 9, 1, 3), ops(2)})
	want := []api.Step{
		trial.Begin(0, 0), trial.Begin(1, 0), load(0, 0), load(1, 0), trial.End(1, 0, api.ErrGateEmpty), enters(0, 0), trial.End(0, 0, 0),
		trial.Begin(0, 1), load(0, 2), shuts(0, 2), load(0, 3), nobody, trial.End(0, 1, api.ErrStuck),
	}
	if !slices.Equal(told.Trace, want) || !trial.Same(told.Answers, [][]api.Answer{{fine, stuck, stuck, stuck, stuck, stuck}, {empty}}) {
		t.Error(told)
	}
}

// A, B and C are not looked at
func TestNotLookedAt(t *testing.T) {
	for _, n := range []int{0, 1, -1, 2, math.MaxInt, math.MinInt} {
		var calls []api.Call
		for _, op := range []int{1, 2, 4, 2, 3, 1, 3} {
			calls = append(calls, api.Call{Op: op, A: n, B: n, C: n})
		}
		told := plays(t, nil, [][]api.Call{calls})
		if !trial.Same(told.Answers, [][]api.Answer{{fine, fine, arg, empty, first, shut, fine}}) {
			t.Error(n, told)
		}
	}
}

// an Op that there is not is told, and the script goes on
func TestNoSuchOp(t *testing.T) {
	for _, op := range trial.Strange(3) {
		told := plays(t, nil, [][]api.Call{ops(op, 1), ops(op)})
		want := []api.Step{
			trial.Begin(0, 0), trial.End(0, 0, api.ErrArg), trial.Begin(0, 1), trial.Begin(1, 0), trial.End(1, 0, api.ErrArg),
			load(0, 0), enters(0, 0), trial.End(0, 1, 0),
		}
		if !slices.Equal(told.Trace, want) || !trial.Same(told.Answers, [][]api.Answer{{arg, fine}, {arg}}) {
			t.Error(op, told)
		}
	}
}

// a schedule may be shorter or longer than what is done, of any numbers
func TestSchedules(t *testing.T) {
	all := [][]api.Call{ops(1, 1, 2), ops(3, 2), ops(1, 2, 3)}
	for _, schedule := range [][]int{nil, {}, {2}, {-1}, {-1, -2, -3, -4}, {math.MinInt, math.MaxInt}, slices.Repeat([]int{-1}, 500), slices.Repeat([]int{0, 7, -5}, 200)} {
		told := plays(t, schedule, all)
		if again := plays(t, schedule, all); !again.Same(told) {
			t.Error("another time otherwise", schedule, told, again)
		}
	}
}

// at the limits: eight threads, 64 calls each
func TestGreatest(t *testing.T) {
	for _, some := range [][]int{{1}, {2}, {3}, {1, 2}, {1, 1, 2}, {1, 2, 3}, {3, 1, 2}} {
		calls := slices.Repeat(ops(some...), api.MaxCalls)[:api.MaxCalls]
		told := plays(t, nil, slices.Repeat([][]api.Call{calls}, api.MaxThreads))
		if many := len(slices.Concat(told.Answers...)); many != api.MaxThreads*api.MaxCalls {
			t.Errorf("%v: %d answers", some, many)
		}
		plays(t, nil, [][]api.Call{calls})
	}
	told := plays(t, nil, slices.Repeat([][]api.Call{slices.Repeat(ops(1), api.MaxCalls)}, api.MaxThreads))
	if last := told.Trace[len(told.Trace)-2]; last.New != 2*api.MaxThreads*api.MaxCalls {
		t.Error(last)
	}
}

func TestNoCalls(t *testing.T) {
	told := plays(t, nil, [][]api.Call{nil})
	if len(told.Trace) != 0 || len(told.Answers) != 1 || len(told.Answers[0]) != 0 {
		t.Error(told)
	}
	plays(t, nil, make([][]api.Call, api.MaxThreads))
	told = plays(t, []int{1}, [][]api.Call{{}, ops(3), nil})
	if !trial.Same(told.Answers, [][]api.Answer{{}, {first}, {}}) {
		t.Error(told)
	}
}

// the cell of a world that has others goes behind these, and is the one that is awaited
func TestCellBehindOthers(t *testing.T) {
	w := turn.New([]int{0, 0, 1, 1, 1})
	cell.New(w, 77)
	a, e := gate.Play(w, [][]api.Call{ops(1, 2), ops(3)})
	want := []api.Step{load(0, 0), enters(0, 0), load(1, 2), shuts(1, 2), load(1, 3), load(0, 3), leaves(0, 3), wakes(1), load(1, 1)}
	for i := range want {
		want[i].Cell++
	}
	if e != api.OK || !trial.Same(a, [][]api.Answer{{fine, fine}, {first}}) || !slices.Equal(trial.Bare(w.Trace()), want) {
		t.Error(a, e, w.Trace())
	}
	if behind := w.Cell(); behind != 2 {
		t.Errorf("it made %d cells", behind-1)
	}
}

func TestRefused(t *testing.T) {
	for _, calls := range [][]api.Call{nil, ops(1, 2, 9), ops(1, 3)} {
		if err := trial.Player(gate.Play).Refuses(calls); err != nil {
			t.Errorf("%v: %v", calls, err)
		}
	}
}

// W6
func TestMemory(t *testing.T) {
	for _, calls := range [][]api.Call{ops(1, 2, 3), ops(3, 1), ops(1, 3)} {
		if err := trial.Player(gate.Play).Keeps(calls); err != nil {
			t.Errorf("%v: %v", calls, err)
		}
	}
}
