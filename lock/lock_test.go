package lock_test

import (
	"math"
	"slices"
	"testing"

	"butler/api"
	"butler/cell"
	"butler/lock"
	"butler/play"
	"butler/trial"
	"butler/turn"
)

// short names for what nearly every row is made of
func step(thread, cell, op, before, after int) api.Step {
	return trial.Step(thread, cell, op, before, after)
}
func load(thread, cell, v int) api.Step       { return step(thread, cell, api.StepLoad, v, v) }
func add(thread, cell, before int) api.Step   { return step(thread, cell, api.StepAdd, before, before+1) }
func wake(thread int) api.Step                { return step(thread, now, api.StepWake, 0, 0) }
func draws(thread, v int) api.Step            { return step(thread, next, api.StepCas, v, v+1) }
func drawsNot(thread, v int) api.Step         { return step(thread, next, api.StepCas, v, v) }
func puts(thread, before, after int) api.Step { return step(thread, sum, api.StepStore, before, after) }

var stuck = step(-1, -1, api.StepStuck, 0, 0)

// script makes calls of numbers, Op and A in turns.
func script(l ...int) []api.Call {
	var out []api.Call
	for i := 0; i < len(l); i += 2 {
		out = append(out, api.Call{Op: l[i], A: l[i+1]})
	}
	return out
}

// ops makes calls of Ops alone.
func ops(l ...int) []api.Call {
	var out []api.Call
	for _, op := range l {
		out = append(out, api.Call{Op: op})
	}
	return out
}

// does carries the lock's own calls out, as toldCalls tells them.
func does(l *lock.Lock, t *turn.Thread, op int) int {
	switch op {
	case 1:
		return number(l.Lock(t))
	case 2:
		return number(l.Try(t))
	}
	l.Unlock(t)
	return 0
}

// calls lets threads call a lock, and holds what they did against the model.
func calls(t *testing.T, schedule []int, scripts [][]api.Call) (*turn.World, [][]api.Answer) {
	t.Helper()
	w := turn.New(schedule)
	l := lock.New(w)
	a := play.Run(w, scripts, func(x *turn.Thread, c api.Call) api.Answer { return api.Answer{Value: does(l, x, c.Op)} })
	want := trial.Game{Cells: make([]int, 2), Scripts: scripts, Call: toldCalls}.Play(schedule)
	isTold(t, schedule, scripts, trial.Told{Trace: w.Trace(), Answers: a, Stuck: w.Stuck()}, want)
	return w, a
}

// plays carries a Play out that may not fail, and holds it against the model.
func plays(t *testing.T, schedule []int, scripts [][]api.Call) (*turn.World, [][]api.Answer) {
	t.Helper()
	w := turn.New(schedule)
	a, e := lock.Play(w, scripts)
	if e != api.OK {
		t.Fatalf("%v of %v: error %d", schedule, scripts, e)
	}
	isTold(t, schedule, scripts, trial.Told{Trace: w.Trace(), Answers: a, Stuck: w.Stuck()}, model(scripts).Play(schedule))
	return w, a
}

func isTold(t *testing.T, schedule []int, scripts [][]api.Call, got, want trial.Told) {
	t.Helper()
	if !slices.Equal(got.Trace, want.Trace) {
		t.Fatalf("%v of %v: the trace\n%v\nis to be\n%v", schedule, scripts, got.Trace, want.Trace)
	}
	if !trial.Same(got.Answers, want.Answers) || got.Stuck != want.Stuck {
		t.Fatalf("%v of %v: answers %v, stuck %v, are to be %v, %v", schedule, scripts, got.Answers, got.Stuck, want.Answers, want.Stuck)
	}
}

// scripts are some of these Ops, for at most so many threads, with sums that go round.
func scripts(r *trial.Row, threads, most int, ops ...int) [][]api.Call {
	out := make([][]api.Call, 1+r.Below(threads))
	for i := range out {
		for range r.Below(most + 1) {
			a := r.One(0, 1, 2, 5, -1, -1, -7, 1000, math.MaxInt, math.MinInt)
			out[i] = append(out[i], api.Call{Op: r.One(ops...), A: a, B: r.Below(3), C: -r.Below(3)})
		}
	}
	return out
}

// P4.1

// New makes two cells: NEXT, which Unlock does not touch, and NOW, which it does
func TestNew(t *testing.T) {
	for _, ahead := range []int{0, 1, 4} {
		w := turn.New(nil)
		for range ahead {
			cell.New(w, 9)
		}
		l := lock.New(w)
		if behind := w.Cell(); behind != ahead+2 {
			t.Errorf("behind %d cells a lock takes %d", ahead, behind-ahead)
		}
		w.Run([]func(*turn.Thread){func(x *turn.Thread) { l.Lock(x); l.Unlock(x) }})
		if want := []api.Step{add(0, ahead, 0), load(0, ahead+1, 0), add(0, ahead+1, 0)}; !slices.Equal(w.Trace(), want) {
			t.Error(ahead, w.Trace())
		}
	}
}

// two locks of a world know nothing of each other
func TestTwoLocks(t *testing.T) {
	w := turn.New(nil)
	a, b := lock.New(w), lock.New(w)
	got := []bool{}
	w.Run([]func(*turn.Thread){func(x *turn.Thread) {
		got = append(got, a.Lock(x), b.Try(x), a.Try(x))
		b.Unlock(x)
		got = append(got, b.Lock(x), a.Try(x))
	}})
	if !slices.Equal(got, []bool{true, true, false, true, false}) || w.Stuck() {
		t.Error(got)
	}
}

// by hand: the lock's own calls (1 Lock, 2 Try, 3 Unlock), their steps, and what they answer
func TestCalls(t *testing.T) {
	for _, x := range []struct {
		name     string
		schedule []int
		scripts  [][]api.Call
		want     []api.Step
		answers  [][]api.Answer
	}{
		{"Lock", nil, [][]api.Call{ops(1)}, []api.Step{add(0, next, 0), load(0, now, 0)}, [][]api.Answer{trial.Values(1)}},
		{"Try", nil, [][]api.Call{ops(2)}, []api.Step{load(0, now, 0), draws(0, 0)}, [][]api.Answer{trial.Values(1)}},
		{"Unlock", nil, [][]api.Call{ops(3)}, []api.Step{add(0, now, 0)}, [][]api.Answer{trial.Values(0)}},
		{"again and again", nil, [][]api.Call{ops(1, 3, 2, 3, 1, 3)},
			[]api.Step{add(0, next, 0), load(0, now, 0), add(0, now, 0), load(0, now, 1), draws(0, 1), add(0, now, 1), add(0, next, 2), load(0, now, 2), add(0, now, 2)},
			[][]api.Answer{trial.Values(1, 0, 1, 0, 1, 0)}},
		{"Try of who has it", nil, [][]api.Call{ops(1, 2, 2, 3, 2)},
			[]api.Step{add(0, next, 0), load(0, now, 0), load(0, now, 0), drawsNot(0, 1), load(0, now, 0), drawsNot(0, 1), add(0, now, 0), load(0, now, 1), draws(0, 1)},
			[][]api.Answer{trial.Values(1, 0, 0, 0, 1)}},
		{"Try behind Try", nil, [][]api.Call{ops(2, 2)},
			[]api.Step{load(0, now, 0), draws(0, 0), load(0, now, 0), drawsNot(0, 1)}, [][]api.Answer{trial.Values(1, 0)}},
		{"Try between a ticket and its look", []int{0, 1, 1, 0}, [][]api.Call{ops(1), ops(2)},
			[]api.Step{add(0, next, 0), load(1, now, 0), drawsNot(1, 1), load(0, now, 0)}, [][]api.Answer{trial.Values(1), trial.Values(0)}},
		{"Try that is overtaken by a ticket", []int{1, 0, 0, 0}, [][]api.Call{ops(1), ops(2)},
			[]api.Step{load(1, now, 0), add(0, next, 0), load(0, now, 0), drawsNot(1, 1)}, [][]api.Answer{trial.Values(1), trial.Values(0)}},
		{"Try that is overtaken by all of it", []int{1, 0, 0, 0, 0}, [][]api.Call{ops(1, 3), ops(2)},
			[]api.Step{load(1, now, 0), add(0, next, 0), load(0, now, 0), add(0, now, 0), drawsNot(1, 1)}, [][]api.Answer{trial.Values(1, 0), trial.Values(0)}},
		{"Try of two at one time", []int{0, 1, 1, 0}, [][]api.Call{ops(2), ops(2)},
			[]api.Step{load(0, now, 0), load(1, now, 0), draws(1, 0), drawsNot(0, 1)}, [][]api.Answer{trial.Values(0), trial.Values(1)}},
		{"Lock of who has it", nil, [][]api.Call{ops(1, 1)},
			[]api.Step{add(0, next, 0), load(0, now, 0), add(0, next, 1), load(0, now, 0), stuck}, [][]api.Answer{trial.Values(1, 0)}},
		{"Lock in a world that is stuck", nil, [][]api.Call{ops(1, 1, 1, 3, 3, 3, 1)},
			[]api.Step{add(0, next, 0), load(0, now, 0), add(0, next, 1), load(0, now, 0), stuck, add(0, next, 2), load(0, now, 0),
				add(0, now, 0), add(0, now, 1), add(0, now, 2), add(0, next, 3), load(0, now, 3)},
			[][]api.Answer{trial.Values(1, 0, 0, 0, 0, 0, 1)}},
		{"Unlock by who has it not", nil, [][]api.Call{ops(3, 2, 1)},
			[]api.Step{add(0, now, 0), load(0, now, 1), drawsNot(0, 0), add(0, next, 0), load(0, now, 1), stuck}, [][]api.Answer{trial.Values(0, 0, 0)}},
		{"Unlock by who has it not lets the next one in", []int{0, 0, 1, 1, 1}, [][]api.Call{ops(1), ops(1), ops(3)},
			[]api.Step{add(0, next, 0), load(0, now, 0), add(2, now, 0), add(1, next, 1), load(1, now, 1)}, [][]api.Answer{trial.Values(1), trial.Values(1), trial.Values(0)}},
		{"it is woken, and is not the one that is called", []int{0, 0, 0, 0, 0, 1}, [][]api.Call{ops(1, 1), ops(3, 3)},
			[]api.Step{add(0, next, 0), load(0, now, 0), add(0, next, 1), load(0, now, 0), add(1, now, 0), add(1, now, 1), wake(0), load(0, now, 2), stuck},
			[][]api.Answer{trial.Values(1, 0), trial.Values(0, 0)}},
	} {
		w, a := calls(t, x.schedule, x.scripts)
		if got := trial.Bare(w.Trace()); !slices.Equal(got, x.want) || !trial.Same(a, x.answers) {
			t.Errorf("%s: %v %v", x.name, got, a)
		}
	}
}

// in whatever order the lock's own calls come, and whoever makes them
func TestCallsByTurns(t *testing.T) {
	r := trial.Row(1)
	stuck, woken, refused := 0, 0, 0
	for range 4000 {
		w, _ := calls(t, r.Schedule(40), scripts(&r, r.One(1, 2, 3, api.MaxThreads), 6, 1, 1, 2, 3, 3, 3))
		stuck += number(w.Stuck())
		woken += number(slices.ContainsFunc(w.Trace(), func(s api.Step) bool { return s.Op == api.StepWake }))
		refused += number(slices.ContainsFunc(w.Trace(), func(s api.Step) bool { return s.Op == api.StepCas && s.Old == s.New }))
	}
	if stuck < 100 || woken < 100 || refused < 100 {
		t.Errorf("the calls are too tame: %d stuck, %d woken, %d refused", stuck, woken, refused)
	}
}

// all orders of some of them
func TestCallsInAllOrders(t *testing.T) {
	for _, scripts := range [][][]api.Call{
		{ops(1, 3), ops(1, 3), ops(1, 3)},
		{ops(1, 3), ops(2, 3), ops(2, 3)},
		{ops(1, 3, 2, 3), ops(2, 3, 1, 3)},
		{ops(1, 1), ops(3, 1, 3), ops(2)},
		{ops(3), ops(1, 2), ops(1, 3)},
	} {
		g := trial.Game{Cells: make([]int, 2), Scripts: scripts, Call: toldCalls}
		for schedule := range g.Schedules {
			calls(t, schedule, scripts)
		}
	}
}

// a free thread alone is answered as the steps say
func TestFreely(t *testing.T) {
	for _, x := range []struct{ ops, want []int }{
		{[]int{1}, []int{1}},
		{[]int{2}, []int{1}},
		{[]int{1, 2, 3, 2, 2, 3, 1, 3}, []int{1, 0, 0, 1, 0, 0, 1, 0}},
		{[]int{3, 2, 2}, []int{0, 0, 0}}, // the ticket that is called was never drawn
		{[]int{1, 3, 3, 2, 2}, []int{1, 0, 0, 0, 0}},
	} {
		l, free := lock.New(nil), turn.Free(5)
		for i, op := range x.ops {
			if got := does(l, free, op); got != x.want[i] {
				t.Errorf("%v: the call %d answers %d", x.ops, i, got)
			}
		}
	}
	r := trial.Row(2)
	l, free, tickets, called := lock.New(nil), turn.Free(0), 0, 0
	for range 20000 {
		op := r.One(1, 2, 2, 3)
		if op == 1 && tickets != called || op == 3 && tickets == called {
			op = 2 // a Lock would wait for ever, and so would all others behind an Unlock of nobody's
		}
		want := number(op != 3 && tickets == called)
		if got := does(l, free, op); got != want {
			t.Fatalf("Op %d with the tickets %d and %d answers %d", op, tickets, called, got)
		}
		tickets, called = tickets+want, called+number(op == 3)
	}
}

// a free Lock that has to wait does so, and goes on when it is called
func TestFreelyWaits(t *testing.T) {
	var none *turn.World
	for i := range 30 {
		l, comes, put, seen := lock.New(nil), make(chan struct{}), 0, 0
		none.Run([]func(*turn.Thread){func(x *turn.Thread) {
			l.Lock(x)
			close(comes)
			put = 1 + i
			l.Unlock(x)
		}, func(x *turn.Thread) {
			<-comes
			if !l.Lock(x) {
				t.Error("a free Lock is false")
			}
			seen = put
			l.Unlock(x)
		}})
		if seen != 1+i {
			t.Errorf("it has seen %d, not %d", seen, 1+i)
		}
	}
}

// Few times only: where there are fewer processors than threads, those that wait freely take much of the time of who has the lock.
func TestFreelyTogether(t *testing.T) {
	const many, each = 4, 100
	l, sum, tried := lock.New(nil), 0, 0
	var none *turn.World
	none.Run(slices.Repeat([]func(*turn.Thread){func(x *turn.Thread) {
		for i := range each {
			if i%4 == 0 && l.Try(x) {
				sum++
				tried++
				l.Unlock(x)
			} else if i%4 != 0 && l.Lock(x) {
				sum++
				l.Unlock(x)
			}
		}
	}}, many))
	if want := many*each/4*3 + tried; sum != want {
		t.Errorf("%d, not %d", sum, want)
	}
	if x := turn.Free(0); !l.Try(x) {
		t.Error("somebody has it still")
	}
}

// P4.2

// the chapter's examples
func TestExamples(t *testing.T) {
	w, a := plays(t, nil, [][]api.Call{script(1, 5, 2, 7)})
	want := []api.Step{
		trial.Begin(0, 0), add(0, next, 0), load(0, now, 0), load(0, sum, 0), puts(0, 0, 5), add(0, now, 0), trial.End(0, 0, api.OK),
		trial.Begin(0, 1), load(0, now, 1), draws(0, 1), load(0, sum, 5), puts(0, 5, 12), add(0, now, 1), trial.End(0, 1, api.OK),
	}
	if !slices.Equal(w.Trace(), want) || !trial.Same(a, [][]api.Answer{trial.Values(0, 5)}) {
		t.Error(w.Trace(), a)
	}
	w, a = plays(t, []int{0, 1, 1}, [][]api.Call{script(1, 1), script(1, 1)})
	want = []api.Step{
		trial.Begin(0, 0), trial.Begin(1, 0),
		add(0, next, 0), add(1, next, 1), load(1, now, 0),
		load(0, now, 0), load(0, sum, 0), puts(0, 0, 1), add(0, now, 0), trial.End(0, 0, api.OK),
		wake(1), load(1, now, 1), load(1, sum, 1), puts(1, 1, 2), add(1, now, 1), trial.End(1, 0, api.OK),
	}
	if !slices.Equal(w.Trace(), want) || !trial.Same(a, [][]api.Answer{trial.Values(0), trial.Values(1)}) {
		t.Error(w.Trace(), a)
	}
	w, a = plays(t, nil, [][]api.Call{script(3, 0)})
	if want := []api.Step{trial.Begin(0, 0), trial.End(0, 0, api.ErrArg)}; !slices.Equal(w.Trace(), want) || !trial.Same(a, [][]api.Answer{{{Code: api.ErrArg}}}) {
		t.Error(w.Trace(), a)
	}
}

// Try when nobody has the lock, when somebody has it, and when a ticket is drawn whose holder has not looked, or is called and has not woken
func TestTry(t *testing.T) {
	for _, x := range []struct {
		name     string
		schedule []int
		scripts  [][]api.Call
		want     [][]api.Answer
	}{
		{"nobody", []int{1, 1, 1, 1, 1}, [][]api.Call{script(1, 4), script(2, 3)}, [][]api.Answer{trial.Values(3), trial.Values(0)}},
		{"nobody any more", []int{0, 0, 0, 0, 0}, [][]api.Call{script(1, 4), script(2, 3)}, [][]api.Answer{trial.Values(0), trial.Values(4)}},
		{"somebody", []int{0, 0, 1, 1}, [][]api.Call{script(1, 4), script(2, 3)}, [][]api.Answer{trial.Values(0), trial.Values(-1)}},
		{"somebody, at its last step", []int{0, 0, 0, 0, 1, 1}, [][]api.Call{script(1, 4), script(2, 3)}, [][]api.Answer{trial.Values(0), trial.Values(-1)}},
		{"a ticket without a look", []int{0, 1, 1}, [][]api.Call{script(1, 4), script(2, 3)}, [][]api.Answer{trial.Values(0), trial.Values(-1)}},
		{"a ticket that is called", []int{0, 1, 1, 0, 0, 0, 0, 1, 1}, [][]api.Call{script(1, 4), script(1, 5), script(2, 3)}, [][]api.Answer{trial.Values(0), trial.Values(4), trial.Values(-1)}},
		{"another Try", []int{0, 0, 1, 1}, [][]api.Call{script(2, 4), script(2, 3)}, [][]api.Answer{trial.Values(0), trial.Values(-1)}},
	} {
		if _, a := plays(t, x.schedule, x.scripts); !trial.Same(a, x.want) {
			t.Errorf("%s: %v", x.name, a)
		}
	}
}

// many Plays, under many schedules, against the model
func TestPlay(t *testing.T) {
	r := trial.Row(3)
	woken, refused, missing := 0, 0, 0
	for range 4000 {
		w, a := plays(t, r.Schedule(60), scripts(&r, r.One(1, 2, 3, api.MaxThreads), 5, 1, 1, 2, 2, r.One(0, 1, 2, 3, -1)))
		woken += number(slices.ContainsFunc(w.Trace(), func(s api.Step) bool { return s.Op == api.StepWake }))
		refused += number(slices.ContainsFunc(w.Trace(), func(s api.Step) bool { return s.Op == api.StepCas && s.Old == s.New }))
		missing += number(slices.Contains(slices.Concat(a...), api.Answer{Code: api.ErrArg}))
	}
	if woken < 100 || refused < 100 || missing < 100 {
		t.Errorf("the Plays are too tame: %d woken, %d refused, %d of no Op", woken, refused, missing)
	}
}

// sums go round
func TestWraps(t *testing.T) {
	_, a := plays(t, nil, [][]api.Call{script(1, math.MaxInt, 2, 1, 1, -1, 1, math.MaxInt, 1, 3, 2, math.MinInt, 1, 0)})
	if want := trial.Values(0, math.MaxInt, math.MinInt, math.MaxInt, -2, 1, math.MinInt+1); !trial.Same(a, [][]api.Answer{want}) {
		t.Error(a)
	}
}

// a sum of -1 is no refusal
func TestMinusOne(t *testing.T) {
	w, a := plays(t, nil, [][]api.Call{script(2, -1, 2, 5, 1, -5, 1, 0)})
	if !trial.Same(a, [][]api.Answer{trial.Values(0, -1, 4, -1)}) || len(trial.Bare(w.Trace())) != 4*5 {
		t.Error(a)
	}
}

// B and C are not looked at; nor is anything of an Op that there is not
func TestNotLookedAt(t *testing.T) {
	for _, n := range []int{0, 1, -1, math.MaxInt, math.MinInt} {
		_, a := plays(t, nil, [][]api.Call{{{Op: 1, A: 6, B: n, C: n}, {Op: 2, A: 7, B: n, C: n}, {Op: 3, A: n, B: n, C: n}, {Op: 2, A: 1, B: n, C: n}}})
		if want := append(trial.Values(0, 6), api.Answer{Code: api.ErrArg}, api.Answer{Value: 13}); !trial.Same(a, [][]api.Answer{want}) {
			t.Error(n, a)
		}
	}
}

// an Op that there is not is told, and the script goes on
func TestNoSuchOp(t *testing.T) {
	for _, op := range []int{0, 3, 4, -1, -2, 257, 258, 1<<32 + 1, 1<<32 + 2, math.MaxInt, math.MinInt} {
		w, a := plays(t, nil, [][]api.Call{script(op, 1, 1, 5), script(op, 1)})
		want := []api.Step{
			trial.Begin(0, 0), trial.End(0, 0, api.ErrArg), trial.Begin(0, 1), trial.Begin(1, 0), trial.End(1, 0, api.ErrArg),
			add(0, next, 0), load(0, now, 0), load(0, sum, 0), puts(0, 0, 5), add(0, now, 0), trial.End(0, 1, api.OK),
		}
		if !slices.Equal(w.Trace(), want) || !trial.Same(a, [][]api.Answer{{{Code: api.ErrArg}, {}}, {{Code: api.ErrArg}}}) {
			t.Error(op, w.Trace(), a)
		}
	}
}

// a schedule may be shorter or longer than what is done, of any numbers
func TestSchedules(t *testing.T) {
	all := [][]api.Call{script(1, 1, 2, 2), script(2, 3, 1, 4), script(1, 5)}
	for _, schedule := range [][]int{nil, {}, {2}, {-1}, {-1, -2, -3, -4}, {math.MinInt, math.MaxInt}, slices.Repeat([]int{-1}, 500), slices.Repeat([]int{0, 7, -5}, 200)} {
		_, a := plays(t, schedule, all)
		if again, _ := lock.Play(turn.New(schedule), all); !trial.Same(a, again) {
			t.Error("another time otherwise", schedule, a, again)
		}
	}
}

// at the limits
func TestGreatest(t *testing.T) {
	for _, op := range []int{1, 2} {
		_, a := plays(t, nil, slices.Repeat([][]api.Call{slices.Repeat(script(op, 1), api.MaxCalls)}, api.MaxThreads))
		for i, l := range a {
			if len(l) != api.MaxCalls {
				t.Errorf("the thread %d has %d answers", i, len(l))
			}
		}
		last := api.MaxThreads*api.MaxCalls - 1
		if op == 1 && !slices.ContainsFunc(a, func(l []api.Answer) bool { return slices.Contains(l, api.Answer{Value: last}) }) {
			t.Errorf("nobody is told %d", last)
		}
	}
	_, a := plays(t, nil, [][]api.Call{slices.Repeat(script(2, 2), api.MaxCalls)})
	if a[0][api.MaxCalls-1].Value != 2*(api.MaxCalls-1) {
		t.Error(a)
	}
}

func TestNoCalls(t *testing.T) {
	w, a := plays(t, nil, [][]api.Call{nil})
	if len(w.Trace()) != 0 || len(a) != 1 || len(a[0]) != 0 || !w.Ran() {
		t.Error(w.Trace(), a)
	}
	_, a = plays(t, []int{1}, [][]api.Call{{}, script(1, 4), nil})
	if !trial.Same(a, [][]api.Answer{{}, trial.Values(0), {}}) {
		t.Error(a)
	}
	plays(t, nil, make([][]api.Call, api.MaxThreads))
}

// the cells of a world that has others go on behind these: NEXT, NOW, X
func TestCellsBehindOthers(t *testing.T) {
	w := turn.New(nil)
	cell.New(w, 77)
	a, e := lock.Play(w, [][]api.Call{script(1, 5)})
	want := []api.Step{add(0, 1, 0), load(0, 2, 0), load(0, 3, 0), step(0, 3, api.StepStore, 0, 5), add(0, 2, 0)}
	if e != api.OK || !trial.Same(a, [][]api.Answer{trial.Values(0)}) || !slices.Equal(trial.Bare(w.Trace()), want) {
		t.Error(a, e, w.Trace())
	}
	if behind := w.Cell(); behind != 4 {
		t.Errorf("it made %d cells", behind-1)
	}
}

func TestRefused(t *testing.T) {
	ran := turn.New(nil)
	if _, e := lock.Play(ran, [][]api.Call{nil}); e != api.OK {
		t.Fatal(e)
	}
	fresh := turn.New(nil)
	fine, long := script(1, 1), make([]api.Call, api.MaxCalls+1)
	nine := slices.Repeat([][]api.Call{fine}, api.MaxThreads+1)
	for i, x := range []struct {
		w       *turn.World
		scripts [][]api.Call
		want    api.Errno
	}{
		{nil, [][]api.Call{fine}, api.ErrArg},
		{ran, [][]api.Call{fine}, api.ErrArg},
		{fresh, nil, api.ErrArg},
		{fresh, [][]api.Call{}, api.ErrArg},
		{nil, nil, api.ErrArg},
		{ran, nil, api.ErrArg},
		{fresh, nine, api.ErrArg},
		{fresh, make([][]api.Call, api.MaxThreads+1), api.ErrArg},
		{fresh, [][]api.Call{long}, api.ErrLong},
		{fresh, [][]api.Call{fine, nil, long}, api.ErrLong},
		{fresh, append(slices.Clone(nine), long), api.ErrLong},
		{nil, [][]api.Call{long}, api.ErrLong},
		{ran, [][]api.Call{fine, long}, api.ErrLong},
	} {
		a, e := lock.Play(x.w, x.scripts)
		if e != x.want || len(a) != 0 {
			t.Errorf("%d: %v, error %d", i, a, e)
		}
		if fresh.Ran() || len(fresh.Trace()) != 0 || len(ran.Trace()) != 0 {
			t.Fatalf("%d: something has run", i)
		}
	}
}

// W6

func TestHandedInStays(t *testing.T) {
	mark, l := api.Call{Op: 2, A: 99}, script(1, 8, 2, 1)
	first, second := trial.Roomy(mark, l...), trial.Roomy(mark, l...)
	scripts := trial.Roomy([]api.Call{mark}, first, second)
	w := turn.New([]int{1, 0})
	a, e := lock.Play(w, scripts)
	if e != api.OK {
		t.Fatal(e)
	}
	for _, s := range [][]api.Call{first, second} {
		if !slices.Equal(s[:4], append(slices.Clone(l), mark, mark)) {
			t.Error(s[:4])
		}
	}
	if s := scripts[:4]; &s[0][0] != &first[0] || &s[1][0] != &second[0] || !slices.Equal(s[2], []api.Call{mark}) || !slices.Equal(s[3], []api.Call{mark}) {
		t.Error(s)
	}
	want, trace := [][]api.Answer{slices.Clone(a[0]), slices.Clone(a[1])}, w.Trace()
	clear(first)
	clear(second)
	clear(scripts)
	if !trial.Same(a, want) || !slices.Equal(w.Trace(), trace) {
		t.Error("what was answered hangs on what was handed in")
	}
}

func TestAnsweredIsNew(t *testing.T) {
	l := script(1, 3, 2, 4)
	_, a := plays(t, nil, [][]api.Call{l, l, l[:1], nil, l})
	if trial.Shares(a) {
		t.Error("two lists share memory")
	}
}
