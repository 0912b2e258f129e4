package once_test

import (
	"errors"
	"slices"
	"strconv"
	"testing"

	"butler/api"
	"butler/history"
	"butler/trial"
)

// What follows is read off the traces alone, without the model.

// played is a Play of so many onces.
type played struct {
	trial.Told
	many    int
	scripts [][]api.Call
}

// call is one of a Play, as its trace tells it.
type call struct {
	asks   int // which once
	begun  int
	ended  int
	steps  []api.Step
	answer api.Answer
}

// calls are those that there are, but for those of an Op that there is not.
func (p played) calls() []call {
	var all []call
	for thread, calls := range p.scripts {
		for i, c := range calls {
			if c.Op < 1 || c.Op > 4 {
				continue
			}
			x := call{asks: rest(c.A, p.many), begun: slices.Index(p.Trace, trial.Begin(thread, i)), answer: p.Answers[thread][i]}
			x.ended = slices.Index(p.Trace, trial.End(thread, i, x.answer.Code))
			for _, s := range p.Trace[x.begun+1 : x.ended] {
				if s.Thread == thread {
					x.steps = append(x.steps, s)
				}
			}
			all = append(all, x)
		}
	}
	return all
}

// could tells whether one of the acts that were handed to a once comes to that.
func (p played) could(which int, x api.Answer) bool {
	return slices.ContainsFunc(slices.Concat(p.scripts...), func(c api.Call) bool {
		if rest(c.A, p.many) != which {
			return false
		}
		switch c.Op {
		case 1:
			return x == fine(c.B)
		case 2:
			return x == failed(c.B)
		case 3:
			return x == panicked(c.B)
		}
		return c.Op == 4 && x == itself
	})
}

// doneOnce is P7.4: all calls of one once answer the same, what one of the acts comes to; and at most one act is carried out: so one Cas is done, and one value and one code are put there.
func (p played) doneOnce() error {
	told := make([]*api.Answer, p.many)
	for _, c := range p.calls() {
		switch x := told[c.asks]; {
		case x == nil && !p.could(c.asks, c.answer):
			return errors.New("no act comes to " + strconv.Itoa(c.answer.Value))
		case x == nil:
			told[c.asks] = &c.answer
		case *x != c.answer:
			return errors.New("the once " + strconv.Itoa(c.asks) + " gives two answers")
		}
	}
	done, puts := make([]int, 2*p.many), make([]int, 2*p.many)
	for _, s := range trial.Bare(p.Trace) {
		if s.Cell >= 0 {
			done[s.Cell] += trial.Number(trial.Does(s))
			puts[s.Cell] += trial.Number(s.Op == api.StepStore)
		}
	}
	for i := range p.many {
		one := trial.Number(told[i] != nil)
		if done[2*i] != one || puts[2*i] != one || puts[2*i+1] != one || done[2*i+1] != 0 {
			return errors.New("the once " + strconv.Itoa(i) + " was not done once")
		}
	}
	return nil
}

// notStuck is P7.5.
func (p played) notStuck() error {
	again := func(x api.Answer) bool { return x.Code == api.ErrStuck || x.Code == api.ErrOnceAgain }
	if p.Stuck || slices.ContainsFunc(slices.Concat(p.Answers...), again) {
		return errors.New("stuck")
	}
	return nil
}

// inOrder is P7.6: who begins behind another one's end looks twice, and no more.
func (p played) inOrder() error {
	ended := slices.Repeat([]int{len(p.Trace)}, p.many)
	calls := p.calls()
	for _, c := range calls {
		ended[c.asks] = min(ended[c.asks], c.ended)
	}
	for _, c := range calls {
		looks := func(s api.Step) bool { return s.Op != api.StepLoad || s.Cell/2 != c.asks }
		if c.begun > ended[c.asks] && (len(c.steps) != 2 || slices.ContainsFunc(c.steps, looks)) {
			return errors.New("a late call does more than look twice")
		}
	}
	return nil
}

// inOneOrder is T5, as far as it is not too long for a history.
func (p played) inOneOrder() error {
	l, e := history.Of(p.scripts, p.Answers, p.Trace)
	if e != api.OK {
		return e
	}
	strange := func(x api.Event) bool { return x.Op < 1 || x.Op > 4 } // of these an object knows no answer
	if l = slices.DeleteFunc(l, strange); len(l) > api.MaxHistory {
		return nil
	}
	if ok, e := history.Linear(5, p.many, l); !ok || e != api.OK {
		return errors.New("there is no such order")
	}
	return nil
}

// follows plays, and asks for all that follows.
func follows(t *testing.T, schedule []int, many int, scripts [][]api.Call) played {
	t.Helper()
	told, e := player(many).Tell(schedule, scripts)
	if e != api.OK {
		t.Fatal(schedule, many, scripts, e)
	}
	p := played{told, many, scripts}
	for i, err := range []error{p.doneOnce(), p.notStuck(), p.inOrder(), p.inOneOrder()} {
		if err != nil {
			t.Fatalf("%s: %v, %d of %v: %v: %v", []string{"P7.4", "P7.5", "P7.6", "T5"}[i], schedule, many, scripts, err, told)
		}
	}
	return p
}

func TestFollows(t *testing.T) {
	r := trial.Row(3)
	failed, woken, late := 0, 0, 0
	for range 4000 {
		many := 1 + r.Below(r.One(1, 2, 4))
		p := follows(t, r.Schedule(80), many, someScripts(&r, r.One(2, 3, api.MaxThreads), 4, many))
		failed += p.Count(trial.Fails)
		woken += p.Count(trial.Wakes)
		for _, c := range p.calls() {
			late += trial.Number(len(c.steps) == 2)
		}
	}
	if min(failed, woken, late) < 500 {
		t.Errorf("the Plays are too tame: %d failed, %d woken, %d late", failed, woken, late)
	}
}

func TestFollowsAtTheLimits(t *testing.T) {
	r := trial.Row(4)
	for _, schedule := range [][]int{nil, slices.Repeat([]int{7, -3, 2, 2, 100}, 2000)} {
		for _, many := range []int{1, 5, api.MaxSlots} {
			all := make([][]api.Call, api.MaxThreads)
			for i := range all {
				calls := slices.Concat(someScripts(&r, api.MaxThreads, api.MaxCalls, many)...)
				all[i] = calls[:min(len(calls), api.MaxCalls)]
			}
			follows(t, schedule, many, all)
		}
	}
}

// whatever the schedule: all orders there are, against the model, too
func TestInAllOrders(t *testing.T) {
	for _, x := range []struct {
		many    int
		scripts [][]api.Call
	}{
		{1, [][]api.Call{script(1, 0, 7, 2, 0, 8, 4, 0, 9)}},
		{1, [][]api.Call{script(1, 0, 7), script(2, 0, 8)}},
		{1, [][]api.Call{script(3, 0, 7), script(1, 0, 8)}},
		{1, [][]api.Call{script(4, 0, 7), script(1, 0, 8)}},
		{1, [][]api.Call{script(4, 0, 7), script(4, 0, 8)}},
		{1, [][]api.Call{script(1, 0, 7, 1, 0, 5), script(1, 0, 8)}},
		{1, [][]api.Call{script(1, 0, 7, 9, 0, 5), script(2, 0, 8, 3, 0, 4)}},
		{2, [][]api.Call{script(1, 0, 7, 1, 1, 5), script(2, 1, 8)}},
		{2, [][]api.Call{script(1, 0, 7, 2, 1, 5), script(3, 1, 8, 4, 0, 4)}},
		{1, [][]api.Call{script(1, 0, 7), script(2, 0, 8), script(3, 0, 9)}},
	} {
		many := 0
		for schedule := range model(x.many, x.scripts).Schedules {
			plays(t, schedule, x.many, x.scripts)
			follows(t, schedule, x.many, x.scripts)
			many++
		}
		if many < 2 && len(x.scripts) > 1 {
			t.Errorf("%v: %d orders", x, many)
		}
	}
}
