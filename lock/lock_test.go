package lock_test

import (
	"math"
	"slices"
	"testing"

	"butler/api"
	"butler/cell"
	"butler/lock"
	"butler/play"
	"butler/trial"
	"butler/turn"
)

// short names for what nearly every row is made of
func step(thread, cell, op, before, after int) api.Step {
	return trial.Step(thread, cell, op, before, after)
}
func load(thread, cell, v int) api.Step       { return step(thread, cell, api.StepLoad, v, v) }
func add(thread, cell, before int) api.Step   { return step(thread, cell, api.StepAdd, before, before+1) }
func wake(thread int) api.Step                { return step(thread, now, api.StepWake, 0, 0) }
func draws(thread, v int) api.Step            { return step(thread, next, api.StepCas, v, v+1) }
func drawsNot(thread, v int) api.Step         { return step(thread, next, api.StepCas, v, v) }
func puts(thread, before, after int) api.Step { return step(thread, sum, api.StepStore, before, after) }

var stuck = step(-1, -1, api.StepStuck, 0, 0)

// script makes calls of numbers, Op and A in turns.
func script(l ...int) []api.Call {
	var out []api.Call
	for i := 0; i < len(l); i += 2 {
		out = append(out, api.Call{Op: l[i], A: l[i+1]})
	}
	return out
}

var ops = trial.Ops

// does carries the lock's own calls out, as toldCalls tells them.
func does(l *lock.Lock, t *turn.Thread, op int) int {
	switch op {
	case 1:
		return trial.Number(l.Lock(t))
	case 2:
		return trial.Number(l.Try(t))
	}
	l.Unlock(t)
	return 0
}

// calls lets threads call a lock, and holds what they did against the model.
func calls(t *testing.T, schedule []int, scripts [][]api.Call) trial.Told {
	t.Helper()
	got, _ := trial.Player(func(w *turn.World, scripts [][]api.Call) ([][]api.Answer, api.Errno) {
		l := lock.New(w)
		return play.Run(w, scripts, func(x *turn.Thread, c api.Call) api.Answer { return api.Answer{Value: does(l, x, c.Op)} }), api.OK
	}).Tell(schedule, scripts)
	isTold(t, schedule, scripts, got, trial.Game{Cells: make([]int, 2), Scripts: scripts, Call: toldCalls}.Play(schedule))
	return got
}

// plays carries a Play out that may not fail, and holds it against the model.
func plays(t *testing.T, schedule []int, scripts [][]api.Call) trial.Told {
	t.Helper()
	got, e := trial.Player(lock.Play).Tell(schedule, scripts)
	if e != api.OK {
		t.Fatalf("%v of %v: error %d", schedule, scripts, e)
	}
	isTold(t, schedule, scripts, got, model(scripts).Play(schedule))
	return got
}

func isTold(t *testing.T, schedule []int, scripts [][]api.Call, got, want trial.Told) {
	t.Helper()
	if !got.Same(want) {
		t.Fatalf("%v of %v:\n%v\nis to be\n%v", schedule, scripts, got, want)
	}
}

// scripts are some of these Ops, for at most so many threads, with sums that go round.
func scripts(r *trial.Row, threads, most int, ops ...int) [][]api.Call {
	out := make([][]api.Call, 1+r.Below(threads))
	for i := range out {
		for range r.Below(most + 1) {
			a := r.One(0, 1, 2, 5, -1, -1, -7, 1000, math.MaxInt, math.MinInt)
			out[i] = append(out[i], api.Call{Op: r.One(ops...), A: a, B: r.Below(3), C: -r.Below(3)})
		}
	}
	return out
}

// P4.1

// New makes two cells: NEXT, which Unlock does not touch, and NOW, which it does
func TestNew(t *testing.T) {
	for _, ahead := range []int{0, 1, 4} {
		w := turn.New(nil)
		for range ahead {
			cell.New(w, 9)
		}
		l := lock.New(w)
		if behind := w.Cell(); behind != ahead+2 {
			t.Errorf("behind %d cells a lock takes %d", ahead, behind-ahead)
		}
		w.Run([]func(*turn.Thread){func(x *turn.Thread) { l.Lock(x); l.Unlock(x) }})
		if want := []api.Step{add(0, ahead, 0), load(0, ahead+1, 0), add(0, ahead+1, 0)}; !slices.Equal(w.Trace(), want) {
			t.Error(ahead, w.Trace())
		}
	}
}

// two locks of a world know nothing of each other
func TestTwoLocks(t *testing.T) {
	w := turn.New(nil)
	a, b := lock.New(w), lock.New(w)
	got := []bool{}
	w.Run([]func(*turn.Thread){func(x *turn.Thread) {
		got = append(got, a.Lock(x), b.Try(x), a.Try(x))
		b.Unlock(x)
		got = append(got, b.Lock(x), a.Try(x))
	}})
	if !slices.Equal(got, []bool{true, true, false, true, false}) || w.Stuck() {
		t.Error(got)
	}
}

// by hand: the lock's own calls (1 Lock, 2 Try, 3 Unlock), their steps, and what they answer
func TestCalls(t *testing.T) {
	for _, x := range []struct {
		name     string
		schedule []int
		scripts  [][]api.Call
		want     []api.Step
		answers  [][]api.Answer
	}{
		{"Lock", nil, [][]api.Call{ops(1)}, []api.Step{add(0, next, 0), load(0, now, 0)}, [][]api.Answer{trial.Values(1)}},
		{"Try", nil, [][]api.Call{ops(2)}, []api.Step{load(0, now, 0), draws(0, 0)}, [][]api.Answer{trial.Values(1)}},
		{"Unlock", nil, [][]api.Call{ops(3)}, []api.Step{add(0, now, 0)}, [][]api.Answer{trial.Values(0)}},
		{"again and again", nil, [][]api.Call{ops(1, 3, 2, 3, 1, 3)},
			[]api.Step{add(0, next, 0), load(0, now, 0), add(0, now, 0), load(0, now, 1), draws(0, 1), add(0, now, 1), add(0, next, 2), load(0, now, 2), add(0, now, 2)},
			[][]api.Answer{trial.Values(1, 0, 1, 0, 1, 0)}},
		{"Try of who has it", nil, [][]api.Call{ops(1, 2, 2, 3, 2)},
			[]api.Step{add(0, next, 0), load(0, now, 0), load(0, now, 0), drawsNot(0, 1), load(0, now, 0), drawsNot(0, 1), add(0, now, 0), load(0, now, 1), draws(0, 1)},
			[][]api.Answer{trial.Values(1, 0, 0, 0, 1)}},
		{"Try behind Try", nil, [][]api.Call{ops(2, 2)},
			[]api.Step{load(0, now, 0), draws(0, 0), load(0, now, 0), drawsNot(0, 1)}, [][]api.Answer{trial.Values(1, 0)}},
		{"Try between a ticket and its look", []int{0, 1, 1, 0}, [][]api.Call{ops(1), ops(2)},
			[]api.Step{add(0, next, 0), load(1, now, 0), drawsNot(1, 1), load(0, now, 0)}, [][]api.Answer{trial.Values(1), trial.Values(0)}},
		{"Try that is overtaken by a ticket", []int{1, 0, 0, 0}, [][]api.Call{ops(1), ops(2)},
			[]api.Step{load(1, now, 0), add(0, next, 0), load(0, now, 0), drawsNot(1, 1)}, [][]api.Answer{trial.Values(1), trial.Values(0)}},
		{"Try that is overtaken by all of it", []int{1, 0, 0, 0, 0}, [][]api.Call{ops(1, 3), ops(2)},
			[]api.Step{load(1, now, 0), add(0, next, 0), load(0, now, 0), add(0, now, 0), drawsNot(1, 1)}, [][]api.Answer{trial.Values(1, 0), trial.Values(0)}},
		{"Try of two at one time", []int{0, 1, 1, 0}, [][]api.Call{ops(2), ops(2)},
			[]api.Step{load(0, now, 0), load(1, now, 0), draws(1, 0), drawsNot(0, 1)}, [][]api.Answer{trial.Values(0), trial.Values(1)}},
		{"Lock of who has it", nil, [][]api.Call{ops(1, 1)},
			[]api.Step{add(0, next, 0), load(0, now, 0), add(0, next, 1), load(0, now, 0), stuck}, [][]api.Answer{trial.Values(1, 0)}},
		{"Lock in a world that is stuck", nil, [][]api.Call{ops(1, 1, 1, 3, 3, 3, 1)},
			[]api.Step{add(0, next, 0), load(0, now, 0), add(0, next, 1), load(0, now, 0), stuck, add(0, next, 2), load(0, now, 0),
				add(0, now, 0), add(0, now, 1), add(0, now, 2), add(0, next, 3), load(0, now, 3)},
			[][]api.Answer{trial.Values(1, 0, 0, 0, 0, 0, 1)}},
		{"Unlock by who has it not", nil, [][]api.Call{ops(3, 2, 1)},
			[]api.Step{add(0, now, 0), load(0, now, 1), drawsNot(0, 0), add(0, next, 0), load(0, now, 1), stuck}, [][]api.Answer{trial.Values(0, 0, 0)}},
		{"Unlock by who has it not lets the next one in", []int{0, 0, 1, 1, 1}, [][]api.Call{ops(1), ops(1), ops(3)},
			[]api.Step{add(0, next, 0), load(0, now, 0), add(2, now, 0), add(1, next, 1), load(1, now, 1)}, [][]api.Answer{trial.Values(1), trial.Values(1), trial.Values(0)}},
		{"it is woken, and is not the one that is called", []int{0, 0, 0, 0, 0, 1}, [][]api.Call{ops(1, 1), ops(3, 3)},
			[]api.Step{add(0, next, 0), load(0, now, 0), add(0, next, 1), load(0, now, 0), add(1, now, 0), add(1, now, 1), wake(0), load(0, now, 2), stuck},
			[][]api.Answer{trial.Values(1, 0), trial.Values(0, 0)}},
	} {
		told := calls(t, x.schedule, x.scripts)
		if got := trial.Bare(told.Trace); !slices.Equal(got, x.want) || !trial.Same(told.Answers, x.answers) {
			t.Errorf("%s: %v %v", x.name, got, told.Answers)
		}
	}
}

// in whatever order the lock's own calls come, and whoever makes them
func TestCallsByTurns(t *testing.T) {
	r := trial.Row(1)
	stuck, woken, refused := 0, 0, 0
	for range 4000 {
		told := calls(t, r.Schedule(40), scripts(&r, r.One(1, 2, 3, api.MaxThreads), 6, 1, 1, 2, 3, 3, 3))
		stuck += trial.Number(told.Stuck)
		woken += trial.Number(told.Count(trial.Wakes) > 0)
		refused += trial.Number(told.Count(trial.Fails) > 0)
	}
	if stuck < 100 || woken < 100 || refused < 100 {
		t.Errorf("the calls are too tame: %d stuck, %d woken, %d refused", stuck, woken, refused)
	}
}

// all orders of some of them
func TestCallsInAllOrders(t *testing.T) {
	for _, scripts := range [][][]api.Call{
		{ops(1, 3), ops(1, 3), ops(1, 3)},
		{ops(1, 3), ops(2, 3), ops(2, 3)},
		{ops(1, 3, 2, 3), ops(2, 3, 1, 3)},
		{ops(1, 1), ops(3, 1, 3), ops(2)},
		{ops(3), ops(1, 2), ops(1, 3)},
	} {
		g := trial.Game{Cells: make([]int, 2), Scripts: scripts, Call: toldCalls}
		for schedule := range g.Schedules {
			calls(t, schedule, scripts)
		}
	}
}

// a free thread alone is answered as the steps say
func TestFreely(t *testing.T) {
	for _, x := range []struct{ ops, want []int }{
		{[]int{1}, []int{1}},
		{[]int{2}, []int{1}},
		{[]int{1, 2, 3, 2, 2, 3, 1, 3}, []int{1, 0, 0, 1, 0, 0, 1, 0}},
		{[]int{3, 2, 2}, []int{0, 0, 0}}, // the ticket that is called was never drawn
		{[]int{1, 3, 3, 2, 2}, []int{1, 0, 0, 0, 0}},
	} {
		l, free := lock.New(nil), turn.Free(5)
		for i, op := range x.ops {
			if got := does(l, free, op); got != x.want[i] {
				t.Errorf("%v: the call %d answers %d", x.ops, i, got)
			}
		}
	}
	r := trial.Row(2)
	l, free, tickets, called := lock.New(nil), turn.Free(0), 0, 0
	for range 20000 {
		op := r.One(1, 2, 2, 3)
		if op == 1 && tickets != called || op == 3 && tickets == called {
			op = 2 // a Lock would wait for ever, and so would all others behind an Unlock of nobody's
		}
		want := trial.Number(op != 3 && tickets == called)
		if got := does(l, free, op); got != want {
			t.Fatalf("Op %d with the tickets %d and %d answers %d", op, tickets, called, got)
		}
		tickets, called = tickets+want, called+trial.Number(op == 3)
	}
}

// a free Lock that has to wait does so, and goes on when it is called
func TestFreelyWaits(t *testing.T) {
	var none *turn.World
	for i := range 30 {
		l, comes, put, seen := lock.New(nil), make(chan struct{}), 0, 0
		none.Run([]func(*turn.Thread){func(x *turn.Thread) {
			l.Lock(x)
			close(comes)
			put = 1 + i
			l.Unlock(x)
		}, func(x *turn.Thread) {
			<-comes
			if !l.Lock(x) {
				t.Error("a free Lock is false")
			}
			seen = put
			l.Unlock(x)
		}})
		if seen != 1+i {
			t.Errorf("it has seen %d, not %d", seen, 1+i)
		}
	}
}

// Few times only: where there are fewer processors than threads, those that wait freely take much of the time of who has the lock.
func TestFreelyTogether(t *testing.T) {
	const many, each = 4, 100
	l, sum, tried := lock.New(nil), 0, 0
	var none *turn.World
	none.Run(slices.Repeat([]func(*turn.Thread){func(x *turn.Thread) {
		for i := range each {
			if i%4 == 0 && l.Try(x) {
				sum++
				tried++
				l.Unlock(x)
			} else if i%4 != 0 && l.Lock(x) {
				sum++
				l.Unlock(x)
			}
		}
	}}, many))
	if want := many*each/4*3 + tried; sum != want {
		t.Errorf("%d, not %d", sum, want)
	}
	if x := turn.Free(0); !l.Try(x) {
		t.Error("somebody has it still")
	}
}

// P4.2

// the chapter's examples
func TestExamples(t *testing.T) {
	told := plays(t, nil, [][]api.Call{script(1, 5, 2, 7)})
	want := []api.Step{
		trial.Begin(0, 0), add(0, next, 0), load(0, now, 0), load(0, sum, 0), puts(0, 0, 5), add(0, now, 0), trial.End(0, 0, api.OK),
		trial.Begin(0, 1), load(0, now, 1), draws(0, 1), load(0, sum, 5), puts(0, 5, 12), add(0, now, 1), trial.End(0, 1, api.OK),
	}
	if !slices.Equal(told.Trace, want) || !trial.Same(told.Answers, [][]api.Answer{trial.Values(0, 5)}) {
		t.Error(told)
	}
	told = plays(t, []int{0, 1, 1}, [][]api.Call{script(1, 1), script(1, 1)})
	want = []api.Step{
		trial.Begin(0, 0), trial.Begin(1, 0),
		add(0, next, 0), add(1, next, 1), load(1, now, 0),
		load(0, now, 0), load(0, sum, 0), puts(0, 0, 1), add(0, now, 0), trial.End(0, 0, api.OK),
		wake(1), load(1, now, 1), load(1, sum, 1), puts(1, 1, 2), add(1, now, 1), trial.End(1, 0, api.OK),
	}
	if !slices.Equal(told.Trace, want) || !trial.Same(told.Answers, [][]api.Answer{trial.Values(0), trial.Values(1)}) {
		t.Error(told)
	}
	told = plays(t, nil, [][]api.Call{script(3, 0)})
	if want := []api.Step{trial.Begin(0, 0), trial.End(0, 0, api.ErrArg)}; !slices.Equal(told.Trace, want) || !trial.Same(told.Answers, [][]api.Answer{{{Code: api.ErrArg}}}) {
		t.Error(told)
	}
}

// Try when nobody has the lock, when somebody has it, and when a ticket is drawn whose holder has not looked, or is called and has not woken
func TestTry(t *testing.T) {
	for _, x := range []struct {
		name     string
		schedule []int
		scripts  [][]api.Call
		want     [][]api.Answer
	}{
		{"nobody", []int{1, 1, 1, 1, 1}, [][]api.Call{script(1, 4), script(2, 3)}, [][]api.Answer{trial.Values(3), trial.Values(0)}},
		{"nobody any more", []int{0, 0, 0, 0, 0}, [][]api.Call{script(1, 4), script(2, 3)}, [][]api.Answer{trial.Values(0), trial.Values(4)}},
		{"somebody", []int{0, 0, 1, 1}, [][]api.Call{script(1, 4), script(2, 3)}, [][]api.Answer{trial.Values(0), trial.Values(-1)}},
		{"somebody, at its last step", []int{0, 0, 0, 0, 1, 1}, [][]api.Call{script(1, 4), script(2, 3)}, [][]api.Answer{trial.Values(0), trial.Values(-1)}},
		{"a ticket without a look", []int{0, 1, 1}, [][]api.Call{script(1, 4), script(2, 3)}, [][]api.Answer{trial.Values(0), trial.Values(-1)}},
		{"a ticket that is called", []int{0, 1, 1, 0, 0, 0, 0, 1, 1}, [][]api.Call{script(1, 4), script(1, 5), script(2, 3)}, [][]api.Answer{trial.Values(0), trial.Values(4), trial.Values(-1)}},
		{"another Try", []int{0, 0, 1, 1}, [][]api.Call{script(2, 4), script(2, 3)}, [][]api.Answer{trial.Values(0), trial.Values(-1)}},
	} {
		if told := plays(t, x.schedule, x.scripts); !trial.Same(told.Answers, x.want) {
			t.Errorf("%s: %v", x.name, told)
		}
	}
}

// many Plays, under many schedules, against the model
func TestPlay(t *testing.T) {
	r := trial.Row(3)
	woken, refused, missing := 0, 0, 0
	for range 4000 {
		told := plays(t, r.Schedule(60), scripts(&r, r.One(1, 2, 3, api.MaxThreads), 5, 1, 1, 2, 2, r.One(0, 1, 2, 3, -1)))
		woken += trial.Number(told.Count(trial.Wakes) > 0)
		refused += trial.Number(told.Count(trial.Fails) > 0)
		missing += trial.Number(slices.Contains(slices.Concat(told.Answers...), api.Answer{Code: api.ErrArg}))
	}
	if woken < 100 || refused < 100 || missing < 100 {
		t.Errorf("the Plays are too tame: %d woken, %d refused, %d of no Op", woken, refused, missing)
	}
}

// sums go round
func TestWraps(t *testing.T) {
	told := plays(t, nil, [][]api.Call{script(1, math.MaxInt, 2, 1, 1, -1, 1, math.MaxInt, 1, 3, 2, math.MinInt, 1, 0)})
	if want := trial.Values(0, math.MaxInt, math.MinInt, math.MaxInt, -2, 1, math.MinInt+1); !trial.Same(told.Answers, [][]api.Answer{want}) {
		t.Error(told)
	}
}

// a sum of -1 is no refusal
func TestMinusOne(t *testing.T) {
	told := plays(t, nil, [][]api.Call{script(2, -1, 2, 5, 1, -5, 1, 0)})
	if !trial.Same(told.Answers, [][]api.Answer{trial.Values(0, -1, 4, -1)}) || len(trial.Bare(told.Trace)) != 4*5 {
		t.Error(told)
	}
}

// B and C are not looked at; nor is anything of an Op that there is not
func TestNotLookedAt(t *testing.T) {
	for _, n := range []int{0, 1, -1, math.MaxInt, math.MinInt} {
		told := plays(t, nil, [][]api.Call{{{Op: 1, A: 6, B: n, C: n}, {Op: 2, A: 7, B: n, C: n}, {Op: 3, A: n, B: n, C: n}, {Op: 2, A: 1, B: n, C: n}}})
		if want := append(trial.Values(0, 6), api.Answer{Code: api.ErrArg}, api.Answer{Value: 13}); !trial.Same(told.Answers, [][]api.Answer{want}) {
			t.Error(n, told)
		}
	}
}

// an Op that there is not is told, and the script goes on
func TestNoSuchOp(t *testing.T) {
	for _, op := range trial.Strange(2) {
		told := plays(t, nil, [][]api.Call{script(op, 1, 1, 5), script(op, 1)})
		want := []api.Step{
			trial.Begin(0, 0), trial.End(0, 0, api.ErrArg), trial.Begin(0, 1), trial.Begin(1, 0), trial.End(1, 0, api.ErrArg),
			add(0, next, 0), load(0, now, 0), load(0, sum, 0), puts(0, 0, 5), add(0, now, 0), trial.End(0, 1, api.OK),
		}
		if !slices.Equal(told.Trace, want) || !trial.Same(told.Answers, [][]api.Answer{{{Code: api.ErrArg}, {}}, {{Code: api.ErrArg}}}) {
			t.Error(op, told)
		}
	}
}

// a schedule may be shorter or longer than what is done, of any numbers
func TestSchedules(t *testing.T) {
	all := [][]api.Call{script(1, 1, 2, 2), script(2, 3, 1, 4), script(1, 5)}
	for _, schedule := range [][]int{nil, {}, {2}, {-1}, {-1, -2, -3, -4}, {math.MinInt, math.MaxInt}, slices.Repeat([]int{-1}, 500), slices.Repeat([]int{0, 7, -5}, 200)} {
		told := plays(t, schedule, all)
		if again := plays(t, schedule, all); !again.Same(told) {
			t.Error("another time otherwise", schedule, told, again)
		}
	}
}

// at the limits
func TestGreatest(t *testing.T) {
	for _, op := range []int{1, 2} {
		a := plays(t, nil, slices.Repeat([][]api.Call{slices.Repeat(script(op, 1), api.MaxCalls)}, api.MaxThreads)).Answers
		for i, l := range a {
			if len(l) != api.MaxCalls {
				t.Errorf("the thread %d has %d answers", i, len(l))
			}
		}
		last := api.MaxThreads*api.MaxCalls - 1
		if op == 1 && !slices.ContainsFunc(a, func(l []api.Answer) bool { return slices.Contains(l, api.Answer{Value: last}) }) {
			t.Errorf("nobody is told %d", last)
		}
	}
	a := plays(t, nil, [][]api.Call{slices.Repeat(script(2, 2), api.MaxCalls)}).Answers
	if a[0][api.MaxCalls-1].Value != 2*(api.MaxCalls-1) {
		t.Error(a)
	}
}

func TestNoCalls(t *testing.T) {
	told := plays(t, nil, [][]api.Call{nil})
	if len(told.Trace) != 0 || len(told.Answers) != 1 || len(told.Answers[0]) != 0 {
		t.Error(told)
	}
	told = plays(t, []int{1}, [][]api.Call{{}, script(1, 4), nil})
	if !trial.Same(told.Answers, [][]api.Answer{{}, trial.Values(0), {}}) {
		t.Error(told)
	}
	plays(t, nil, make([][]api.Call, api.MaxThreads))
}

// the cells of a world that has others go on behind these: NEXT, NOW, which is the one that is awaited, and X
func TestCellsBehindOthers(t *testing.T) {
	w := turn.New([]int{0, 1, 1})
	cell.New(w, 77)
	a, e := lock.Play(w, [][]api.Call{script(1, 5), script(1, 6)})
	want := []api.Step{
		add(0, 1, 0), add(1, 1, 1), load(1, 2, 0),
		load(0, 2, 0), load(0, 3, 0), step(0, 3, api.StepStore, 0, 5), add(0, 2, 0),
		step(1, 2, api.StepWake, 0, 0), load(1, 2, 1), load(1, 3, 5), step(1, 3, api.StepStore, 5, 11), add(1, 2, 1),
	}
	if e != api.OK || !trial.Same(a, [][]api.Answer{trial.Values(0), trial.Values(5)}) || !slices.Equal(trial.Bare(w.Trace()), want) {
		t.Error(a, e, w.Trace())
	}
	if behind := w.Cell(); behind != 4 {
		t.Errorf("it made %d cells", behind-1)
	}
}

func TestRefused(t *testing.T) {
	if err := trial.Player(lock.Play).Refuses(script(1, 1, 2, 1)); err != nil {
		t.Error(err)
	}
}

// W6
func TestMemory(t *testing.T) {
	if err := trial.Player(lock.Play).Keeps(script(1, 8, 2, 1)); err != nil {
		t.Error(err)
	}
}
