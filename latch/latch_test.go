package latch_test

import (
	"math"
	"slices"
	"testing"

	"butler/api"
	"butler/cell"
	"butler/latch"
	"butler/trial"
	"butler/turn"
)

// short names for what nearly every row is made of
func load(thread, v int) api.Step  { return trial.Step(thread, count, api.StepLoad, v, v) }
func downs(thread, v int) api.Step { return trial.Step(thread, count, api.StepCas, v, v-1) }
func fails(thread, v int) api.Step { return trial.Step(thread, count, api.StepCas, v, v) }
func wakes(thread int) api.Step    { return trial.Step(thread, count, api.StepWake, 0, 0) }

var nobody = trial.Step(-1, -1, api.StepStuck, 0, 0)

const (
	low   = api.ErrLatchLow
	stuck = api.ErrStuck
)

var ops, codes = trial.Ops, trial.Codes

// player is Play of a latch that stands at n.
func player(n int) trial.Player {
	return func(w *turn.World, scripts [][]api.Call) ([][]api.Answer, api.Errno) {
		return latch.Play(w, n, scripts)
	}
}

// plays carries a Play out that may not fail, and holds it against the model.
func plays(t *testing.T, schedule []int, n int, scripts [][]api.Call) trial.Told {
	t.Helper()
	got, e := player(n).Tell(schedule, scripts)
	if want := model(n, scripts).Play(schedule); e != api.OK || !got.Same(want) {
		t.Fatalf("%v, %d of %v: error %d,\n%v\nis to be\n%v", schedule, n, scripts, e, got, want)
	}
	return got
}

// P5.1

// New makes one cell, in which n stands, or 0
func TestNew(t *testing.T) {
	for _, x := range [][2]int{{0, 0}, {1, 1}, {2, 2}, {64, 64}, {1 << 40, 1 << 40}, {math.MaxInt, math.MaxInt}, {-1, 0}, {-2, 0}, {-1 << 32, 0}, {math.MinInt, 0}} {
		for _, ahead := range []int{0, 1, 4} {
			w := turn.New(nil)
			for range ahead {
				cell.New(w, 9)
			}
			l, e := latch.New(w, x[0]), api.OK
			if behind := w.Cell(); behind != ahead+1 {
				t.Errorf("behind %d cells a latch takes %d", ahead, behind-ahead)
			}
			w.Run([]func(*turn.Thread){func(x *turn.Thread) { e = l.Down(x) }})
			want := []api.Step{trial.Step(0, ahead, api.StepLoad, x[1], x[1])}
			if x[1] > 0 {
				want = append(want, trial.Step(0, ahead, api.StepCas, x[1], x[1]-1))
			}
			if !slices.Equal(w.Trace(), want) || (e == low) != (x[1] == 0) || e != api.OK && e != low {
				t.Errorf("New of %d behind %d cells: %v, error %d", x[0], ahead, w.Trace(), e)
			}
		}
	}
}

// two latches of a world know nothing of each other
func TestTwoLatches(t *testing.T) {
	w := turn.New(nil)
	a, b := latch.New(w, 1), latch.New(w, 2)
	var got []api.Errno
	var waits []bool
	w.Run([]func(*turn.Thread){func(x *turn.Thread) {
		got = append(got, b.Down(x), a.Down(x), a.Down(x))
		waits = append(waits, a.Wait(x), b.Wait(x), a.Wait(x))
		got = append(got, b.Down(x), b.Down(x))
		waits = append(waits, b.Wait(x)) // of a world that was stuck
	}})
	if !slices.Equal(got, []api.Errno{0, 0, low, 0, low}) || !slices.Equal(waits, []bool{true, false, true, true}) || !w.Stuck() {
		t.Error(got, waits)
	}
}

// by hand: the latch's own calls (1 Down, 2 Wait), their steps, and what they answer. They go on where the world is stuck, as no Play does.
func TestCalls(t *testing.T) {
	for _, x := range []struct {
		name     string
		n        int
		schedule []int
		scripts  [][]api.Call
		want     []api.Step
		answers  [][]api.Answer // of a Wait: stuck, if it is false
	}{
		{"Down", 1, nil, [][]api.Call{ops(1)}, []api.Step{load(0, 1), downs(0, 1)}, [][]api.Answer{codes(0)}},
		{"Down of more", 5, nil, [][]api.Call{ops(1, 1)}, []api.Step{load(0, 5), downs(0, 5), load(0, 4), downs(0, 4)}, [][]api.Answer{codes(0, 0)}},
		{"Down of 0", 0, nil, [][]api.Call{ops(1, 1)}, []api.Step{load(0, 0), load(0, 0)}, [][]api.Answer{codes(low, low)}},
		{"Down till it is 0", 2, nil, [][]api.Call{ops(1, 1, 1, 1)}, []api.Step{load(0, 2), downs(0, 2), load(0, 1), downs(0, 1), load(0, 0), load(0, 0)}, [][]api.Answer{codes(0, 0, low, low)}},
		{"Wait of 0", 0, nil, [][]api.Call{ops(2, 2)}, []api.Step{load(0, 0), load(0, 0)}, [][]api.Answer{codes(0, 0)}},
		{"Wait behind the last Down", 1, nil, [][]api.Call{ops(1, 2, 1, 2)}, []api.Step{load(0, 1), downs(0, 1), load(0, 0), load(0, 0), load(0, 0)}, [][]api.Answer{codes(0, 0, low, 0)}},
		{"Wait ahead of the last Down", 1, []int{0, 0, 0, 0, 0}, [][]api.Call{ops(2), ops(1)}, []api.Step{load(0, 1), load(1, 1), downs(1, 1), wakes(0), load(0, 0)}, [][]api.Answer{codes(0), codes(0)}},
		{"Wait that is woken by each Down", 2, []int{0, 0, 0, 0, 0, 0, 0, 0}, [][]api.Call{ops(2), ops(1, 1)},
			[]api.Step{load(0, 2), load(1, 2), downs(1, 2), wakes(0), load(0, 1), load(1, 1), downs(1, 1), wakes(0), load(0, 0)}, [][]api.Answer{codes(0), codes(0, 0)}},
		{"Wait that sleeps through a Down", 2, []int{0, 0, 0, 1, 1, 0}, [][]api.Call{ops(2), ops(1, 1)},
			[]api.Step{load(0, 2), load(1, 2), downs(1, 2), load(1, 1), downs(1, 1), wakes(0), load(0, 0)}, [][]api.Answer{codes(0), codes(0, 0)}},
		{"Wait that nobody wakes", 1, nil, [][]api.Call{ops(2)}, []api.Step{load(0, 1), nobody}, [][]api.Answer{codes(stuck)}},
		{"Waits that nobody wakes", 3, nil, [][]api.Call{ops(2), ops(1, 2)}, []api.Step{load(0, 3), load(1, 3), downs(1, 3), wakes(0), load(1, 2), load(0, 2), nobody}, [][]api.Answer{codes(stuck), codes(0, stuck)}},
		{"Wait in a world that is stuck", 2, nil, [][]api.Call{ops(2, 2, 1, 2, 1, 2)},
			[]api.Step{load(0, 2), nobody, load(0, 2), load(0, 2), downs(0, 2), load(0, 1), load(0, 1), downs(0, 1), load(0, 0)}, [][]api.Answer{codes(stuck, stuck, 0, stuck, 0, 0)}},
		{"a failed Cas wakes nobody", 3, []int{0, 0, 1, 0, 0, 0, 0, 0, 0, 0, 0}, [][]api.Call{ops(2), ops(1), ops(1)},
			[]api.Step{load(0, 3), load(1, 3), load(2, 3), downs(1, 3), wakes(0), load(0, 2), fails(2, 2), load(2, 2), downs(2, 2), wakes(0), load(0, 1), nobody}, [][]api.Answer{codes(stuck), codes(0), codes(0)}},
		{"Down whose Cas finds another number", 5, []int{0, 1, 1, 0, 0, 0}, [][]api.Call{ops(1), ops(1)}, []api.Step{load(0, 5), load(1, 5), downs(1, 5), fails(0, 4), load(0, 4), downs(0, 4)}, [][]api.Answer{codes(0), codes(0)}},
		{"Down whose Cas finds 0", 1, []int{0, 1, 1, 0, 0}, [][]api.Call{ops(1), ops(1)}, []api.Step{load(0, 1), load(1, 1), downs(1, 1), fails(0, 0), load(0, 0)}, [][]api.Answer{codes(low), codes(0)}},
		{"Down that fails twice", 3, []int{0, 1, 1, 0, 0, 1, 1, 0}, [][]api.Call{ops(1), ops(1, 1)},
			[]api.Step{load(0, 3), load(1, 3), downs(1, 3), fails(0, 2), load(0, 2), load(1, 2), downs(1, 2), fails(0, 1), load(0, 1), downs(0, 1)}, [][]api.Answer{codes(0), codes(0, 0)}},
	} {
		w := turn.New(x.schedule)
		l := latch.New(w, x.n)
		got := trial.Calls(w, x.scripts, func(th *turn.Thread, c api.Call) api.Answer { return api.Answer{Code: does(l, th, c.Op)} })
		if !slices.Equal(w.Trace(), x.want) || !trial.Same(got, x.answers) {
			t.Errorf("%s: %v %v", x.name, w.Trace(), got)
		}
	}
}

// does carries the latch's own calls out.
func does(l *latch.Latch, t *turn.Thread, op int) api.Errno {
	if op == 1 {
		return l.Down(t)
	}
	if l.Wait(t) {
		return api.OK
	}
	return stuck
}

// a free thread alone is answered as the steps say; it waits only where it does not have to, or would do so for ever
func TestFreely(t *testing.T) {
	for _, n := range []int{math.MinInt, -5, -1, 0, 1, 2, 3, 64, 1000} {
		l, free := latch.New(nil, n), turn.Free(5)
		for i := range n {
			if e := l.Down(free); e != api.OK {
				t.Fatalf("of %d the Down %d answers %d", n, i, e)
			}
		}
		for range 3 {
			if e := l.Down(free); e != low {
				t.Errorf("of %d a Down too many answers %d", n, e)
			}
			if !l.Wait(free) {
				t.Errorf("of %d Wait is false", n)
			}
		}
	}
	l, free := latch.New(nil, math.MaxInt), turn.Free(255)
	for range 1000 {
		if e := l.Down(free); e != api.OK {
			t.Fatal(e)
		}
	}
}

// a free Wait that has to wait does so, and goes on when all have come. Few times only: where there are fewer processors than threads, who waits freely takes much of the others' time.
func TestFreelyWaits(t *testing.T) {
	var none *turn.World
	for range 5 {
		l, come, seen := latch.New(nil, 2), [2]int{}, 0
		none.Run([]func(*turn.Thread){
			func(x *turn.Thread) { come[0] = 3; l.Down(x) },
			func(x *turn.Thread) { come[1] = 4; l.Down(x) },
			func(x *turn.Thread) {
				if !l.Wait(x) {
					t.Error("a free Wait is false")
				}
				seen = come[0] + come[1]
			},
		})
		if seen != 7 {
			t.Errorf("behind Wait it has seen %d", seen)
		}
	}
}

// of many free Downs just n are OK
func TestFreelyTogether(t *testing.T) {
	const many, each, n = 8, 5000, 30000
	var none *turn.World
	l, ok, lows := latch.New(nil, n), [many]int{}, [many]int{}
	none.Run(slices.Repeat([]func(*turn.Thread){func(x *turn.Thread) {
		for range each {
			switch l.Down(x) {
			case api.OK:
				ok[x.Id()]++
			case low:
				lows[x.Id()]++
			}
		}
	}}, many))
	sum, missed := 0, 0
	for i := range many {
		sum, missed = sum+ok[i], missed+lows[i]
	}
	if sum != n || missed != many*each-n {
		t.Errorf("%d are OK, %d are not", sum, missed)
	}
}

// P5.2

// the chapter's examples; what stands there in the end is read off the last step
func TestExamples(t *testing.T) {
	for i, x := range []struct {
		n       int
		scripts [][]api.Call
		answers [][]api.Answer
		stands  int
		want    []api.Step // with its notes; nil: it is not said
	}{
		{1, [][]api.Call{ops(1), ops(2)}, [][]api.Answer{codes(0), codes(0)}, 0, []api.Step{
			trial.Begin(0, 0), trial.Begin(1, 0), load(0, 1), load(1, 1), downs(0, 1), trial.End(0, 0, 0), wakes(1), load(1, 0), trial.End(1, 0, 0)}},
		{2, [][]api.Call{ops(1), ops(2)}, [][]api.Answer{codes(0), codes(stuck)}, 1, nil},
		{1, [][]api.Call{ops(1, 1)}, [][]api.Answer{codes(0, low)}, 0, nil},
		{0, [][]api.Call{ops(2), ops(3)}, [][]api.Answer{codes(0), codes(api.ErrArg)}, 0, nil},
		{2, [][]api.Call{ops(1), ops(1)}, [][]api.Answer{codes(0), codes(0)}, 0, []api.Step{
			trial.Begin(0, 0), trial.Begin(1, 0), load(0, 2), load(1, 2), downs(0, 2), trial.End(0, 0, 0), fails(1, 1), load(1, 1), downs(1, 1), trial.End(1, 0, 0)}},
	} {
		told := plays(t, nil, x.n, x.scripts)
		if !trial.Same(told.Answers, x.answers) || x.want != nil && !slices.Equal(told.Trace, x.want) {
			t.Errorf("%d: %v", i, told)
		}
		stands := x.n
		for _, s := range told.Trace {
			if s.Cell == count && s.Op != api.StepWake {
				stands = s.New
			}
		}
		if stands != x.stands {
			t.Errorf("%d: in the end %d stands there", i, stands)
		}
	}
	if a, e := latch.Play(turn.New(nil), -1, [][]api.Call{ops(1)}); e != api.ErrArg || len(a) != 0 {
		t.Error(a, e)
	}
}

// many Plays, under many schedules, against the model
func TestPlay(t *testing.T) {
	r := trial.Row(1)
	stucks, woken, failed, lows, missing := 0, 0, 0, 0, 0
	for range 5000 {
		told := plays(t, r.Schedule(60), r.One(0, 1, 2, 3, 5, 8, 100), r.Scripts(r.One(1, 2, 3, api.MaxThreads), 5, 1, 1, 1, 2, r.One(0, 1, 2, 3, -1)))
		stucks += trial.Number(told.Stuck)
		woken += trial.Number(told.Count(trial.Wakes) > 0)
		failed += trial.Number(told.Count(trial.Fails) > 0)
		lows += trial.Number(slices.Contains(slices.Concat(told.Answers...), api.Answer{Code: low}))
		missing += trial.Number(slices.Contains(slices.Concat(told.Answers...), api.Answer{Code: api.ErrArg}))
	}
	if min(stucks, woken, failed, lows, missing) < 300 {
		t.Errorf("the Plays are too tame: %d stuck, %d woken, %d failed, %d too low, %d of no Op", stucks, woken, failed, lows, missing)
	}
}

// behind ErrStuck there is neither note nor step, not even of an Op that there is not
func TestBehindStuck(t *testing.T) {
	told := plays(t, nil, 2, [][]api.Call{ops(2, 1, 9, 2, 1), ops(1)})
	want := []api.Step{
		trial.Begin(0, 0), trial.Begin(1, 0), load(0, 2), load(1, 2), downs(1, 2), trial.End(1, 0, 0),
		wakes(0), load(0, 1), nobody, trial.End(0, 0, stuck),
	}
	if !slices.Equal(told.Trace, want) || !trial.Same(told.Answers, [][]api.Answer{codes(stuck, stuck, stuck, stuck, stuck), codes(0)}) {
		t.Error(told)
	}
}

// A, B and C are not looked at
func TestNotLookedAt(t *testing.T) {
	for _, n := range []int{0, 1, -1, 2, math.MaxInt, math.MinInt} {
		told := plays(t, nil, 1, [][]api.Call{{{Op: 1, A: n, B: n, C: n}, {Op: 2, A: n, B: n, C: n}, {Op: 3, A: n, B: n, C: n}, {Op: 1, A: n, B: n, C: n}}})
		if !trial.Same(told.Answers, [][]api.Answer{codes(0, 0, api.ErrArg, low)}) {
			t.Error(n, told)
		}
	}
}

// an Op that there is not is told, and the script goes on
func TestNoSuchOp(t *testing.T) {
	for _, op := range trial.Strange(2) {
		told := plays(t, nil, 1, [][]api.Call{ops(op, 1), ops(op)})
		want := []api.Step{
			trial.Begin(0, 0), trial.End(0, 0, api.ErrArg), trial.Begin(0, 1), trial.Begin(1, 0), trial.End(1, 0, api.ErrArg),
			load(0, 1), downs(0, 1), trial.End(0, 1, 0),
		}
		if !slices.Equal(told.Trace, want) || !trial.Same(told.Answers, [][]api.Answer{codes(api.ErrArg, 0), codes(api.ErrArg)}) {
			t.Error(op, told)
		}
	}
}

// a schedule may be shorter or longer than what is done, of any numbers
func TestSchedules(t *testing.T) {
	all := [][]api.Call{ops(1, 2), ops(2, 1), ops(1, 1, 1)}
	for _, schedule := range [][]int{nil, {}, {2}, {-1}, {-1, -2, -3, -4}, {math.MinInt, math.MaxInt}, slices.Repeat([]int{-1}, 500), slices.Repeat([]int{0, 7, -5}, 200)} {
		for n := range 6 {
			told := plays(t, schedule, n, all)
			if again := plays(t, schedule, n, all); !again.Same(told) {
				t.Error("another time otherwise", schedule, told, again)
			}
		}
	}
}

// at the limits: eight threads, 64 calls each
func TestGreatest(t *testing.T) {
	const all = api.MaxThreads * api.MaxCalls
	for _, n := range []int{0, 1, all - 1, all, all + 1, math.MaxInt} {
		told := plays(t, nil, n, slices.Repeat([][]api.Call{slices.Repeat(ops(1), api.MaxCalls)}, api.MaxThreads))
		lows := 0
		for _, x := range slices.Concat(told.Answers...) {
			lows += trial.Number(x.Code == low)
		}
		if want := max(0, all-n); lows != want || len(slices.Concat(told.Answers...)) != all {
			t.Errorf("of %d: %d, not %d, are too many", n, lows, want)
		}
	}
	for _, n := range []int{0, 1} {
		plays(t, nil, n, slices.Repeat([][]api.Call{slices.Repeat(ops(2), api.MaxCalls)}, api.MaxThreads))
		plays(t, nil, n, slices.Repeat([][]api.Call{slices.Repeat(ops(1, 2), api.MaxCalls/2)}, api.MaxThreads))
	}
	told := plays(t, nil, api.MaxCalls-1, [][]api.Call{slices.Repeat(ops(1), api.MaxCalls)})
	if a := told.Answers[0]; a[api.MaxCalls-2].Code != api.OK || a[api.MaxCalls-1].Code != low {
		t.Error(a)
	}
}

func TestNoCalls(t *testing.T) {
	for _, n := range []int{0, 1} {
		told := plays(t, nil, n, [][]api.Call{nil})
		if len(told.Trace) != 0 || len(told.Answers) != 1 || len(told.Answers[0]) != 0 {
			t.Error(told)
		}
		plays(t, nil, n, make([][]api.Call, api.MaxThreads))
	}
	told := plays(t, []int{1}, 1, [][]api.Call{{}, ops(1), nil})
	if !trial.Same(told.Answers, [][]api.Answer{{}, codes(0), {}}) {
		t.Error(told)
	}
}

// the cell of a world that has others goes behind these, and is the one that is awaited
func TestCellBehindOthers(t *testing.T) {
	w := turn.New([]int{1, 0, 0})
	cell.New(w, 77)
	a, e := latch.Play(w, 1, [][]api.Call{ops(1), ops(2)})
	want := []api.Step{
		trial.Step(1, 1, api.StepLoad, 1, 1), trial.Step(0, 1, api.StepLoad, 1, 1), trial.Step(0, 1, api.StepCas, 1, 0),
		trial.Step(1, 1, api.StepWake, 0, 0), trial.Step(1, 1, api.StepLoad, 0, 0),
	}
	if e != api.OK || !trial.Same(a, [][]api.Answer{codes(0), codes(0)}) || !slices.Equal(trial.Bare(w.Trace()), want) {
		t.Error(a, e, w.Trace())
	}
	if behind := w.Cell(); behind != 2 {
		t.Errorf("it made %d cells", behind-1)
	}
}

func TestRefused(t *testing.T) {
	for _, n := range []int{0, 1, 5, math.MaxInt} {
		if err := player(n).Refuses(ops(1, 1, 9)); err != nil {
			t.Errorf("of %d: %v", n, err)
		}
	}
	for _, n := range []int{-1, -2, -1 << 32, math.MinInt} {
		if err := player(n).RefusesAll(ops(1)); err != nil {
			t.Errorf("of %d: %v", n, err)
		}
	}
}

// P5.3

func TestMemory(t *testing.T) {
	for _, n := range []int{0, 1, 3, 9} {
		if err := player(n).Keeps(ops(1, 2)); err != nil {
			t.Errorf("of %d: %v", n, err)
		}
	}
}
