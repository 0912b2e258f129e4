package lock_test

import (
	"errors"
	"slices"
	"strconv"
	"testing"

	"butler/api"
	"butler/history"
	"butler/lock"
	"butler/trial"
)

// What follows is read off the traces alone, without the model.

// played is a Play of these scripts.
type played struct {
	trial.Told
	scripts [][]api.Call
}

// ticket is who drew one, and by which of its calls.
type ticket struct{ thread, call int }

// tickets are those that were drawn, in order.
func (p played) tickets() []ticket {
	var out []ticket
	begun := make([]int, len(p.scripts))
	for _, s := range p.Trace {
		switch {
		case s.Op == api.StepBegin:
			begun[s.Thread]++
		case s.Cell == next && s.Op >= api.StepCas && s.Old != s.New:
			out = append(out, ticket{s.Thread, begun[s.Thread] - 1})
		}
	}
	return out
}

// oneAtATime is P4.3: from the step at which a thread sees that its ticket is called, or draws it by Try, to its Unlock nobody else gets so far, nor does a step on X.
func (p played) oneAtATime() error {
	has, drawn := -1, make([]int, len(p.scripts))
	for i := range drawn {
		drawn[i] = -1
	}
	for i, s := range trial.Bare(p.Trace) {
		if s.Op == api.StepStuck {
			continue
		}
		called := s.Cell == now && s.Op == api.StepLoad && s.Old == drawn[s.Thread]
		tried := s.Cell == next && s.Op == api.StepCas && s.Old != s.New
		unlocks := s.Cell == now && s.Op == api.StepAdd
		switch {
		case s.Cell == next && s.Op == api.StepAdd:
			drawn[s.Thread] = s.Old
		case called || tried:
			if has != -1 {
				return at(i, "a second one has the lock")
			}
			has = s.Thread
		case (unlocks || s.Cell == sum) && has != s.Thread:
			return at(i, "it has not the lock")
		case unlocks:
			has, drawn[s.Thread] = -1, -1
		}
	}
	return nil
}

// inOrder is P4.4: the steps on X are, ticket by ticket, a Load and a Store of who drew it.
func (p played) inOrder() error {
	var want, got []api.Step
	for _, x := range p.tickets() {
		want = append(want, step(x.thread, sum, api.StepLoad, 0, 0), step(x.thread, sum, api.StepStore, 0, 0))
	}
	for _, s := range p.Trace {
		if s.Cell == sum {
			got = append(got, step(s.Thread, sum, s.Op, 0, 0))
		}
	}
	if !slices.Equal(got, want) {
		return errors.New("not in the order of the tickets")
	}
	return nil
}

// nothingLost is P4.5: nobody is stuck; ticket by ticket each is told the sum of the As ahead; X ends as the sum of all; and who drew none was refused.
func (p played) nothingLost() error {
	if p.Stuck {
		return errors.New("stuck")
	}
	total, drawn := 0, p.tickets()
	for _, x := range drawn {
		if p.Answers[x.thread][x.call] != (api.Answer{Value: total}) {
			return errors.New("at the sum " + strconv.Itoa(total) + " another answer")
		}
		total += p.scripts[x.thread][x.call].A
	}
	stands := 0
	for _, s := range p.Trace {
		if s.Cell == sum {
			stands = s.New
		}
	}
	if stands != total {
		return errors.New("X ends as another sum")
	}
	for thread, calls := range p.scripts {
		for i, c := range calls {
			if slices.Contains(drawn, ticket{thread, i}) || c.Op != 1 && c.Op != 2 {
				continue
			}
			if c.Op == 1 || p.Answers[thread][i] != (api.Answer{Value: -1}) {
				return errors.New("a call without a ticket")
			}
		}
	}
	return nil
}

func at(i int, text string) error { return errors.New("the step " + strconv.Itoa(i) + ": " + text) }

// follows plays, and asks for all that follows.
func follows(t *testing.T, schedule []int, scripts [][]api.Call) played {
	t.Helper()
	told, e := trial.Player(lock.Play).Tell(schedule, scripts)
	if e != api.OK {
		t.Fatal(schedule, scripts, e)
	}
	p := played{told, scripts}
	for i, err := range []error{p.oneAtATime(), p.inOrder(), p.nothingLost()} {
		if err != nil {
			t.Fatalf("P4.%d: %v of %v: %v: %v", 3+i, schedule, scripts, err, told)
		}
	}
	return p
}

func TestFollows(t *testing.T) {
	r := trial.Row(4)
	refused, tried := 0, 0
	for range 3000 {
		p := follows(t, r.Schedule(80), scripts(&r, r.One(2, 3, api.MaxThreads), 6, 1, 1, 2, 2, r.One(1, 2, 3)))
		refused += p.Count(trial.Fails)
		tried += p.Count(trial.Does)
	}
	if refused < 1000 || tried < 1000 {
		t.Errorf("the Plays are too tame: %d tries in vain, %d others", refused, tried)
	}
}

func TestFollowsAtTheLimits(t *testing.T) {
	mixed := slices.Repeat(script(1, 1, 2, 10, 1, -100), 22)[:api.MaxCalls]
	for _, schedule := range [][]int{nil, slices.Repeat([]int{7, -3, 2, 2, 100}, 2000)} {
		follows(t, schedule, slices.Repeat([][]api.Call{mixed}, api.MaxThreads))
	}
}

// whatever the schedule: all orders there are
func TestFollowsInAllOrders(t *testing.T) {
	for _, x := range [][][]api.Call{
		{script(1, 1, 2, 2)},
		{script(1, 1), script(1, 2)},
		{script(1, 1), script(2, 2)},
		{script(2, 1), script(2, 2)},
		{script(1, 1), script(1, 2), script(1, 4)},
		{script(1, 1), script(2, 2), script(2, 4)},
		{script(1, 1, 2, 2), script(2, 4)},
		{script(2, 1, 1, 2), script(1, 4)},
	} {
		many := 0
		for schedule := range model(x).Schedules {
			follows(t, schedule, x)
			many++
		}
		if many < 2 && len(x) > 1 {
			t.Errorf("%v: %d orders", x, many)
		}
	}
}

// T5: what was told could have been told by calls one behind the other
func TestLinear(t *testing.T) {
	r := trial.Row(5)
	for range 1500 {
		calls := scripts(&r, 4, 3, 1, 1, 2)
		p := follows(t, r.Schedule(50), calls)
		l, e := history.Of(calls, p.Answers, p.Trace)
		if e != api.OK {
			t.Fatal(e)
		}
		if linear, e := history.Linear(1, 0, l); !linear || e != api.OK {
			t.Fatalf("%v: %v, error %d", l, linear, e)
		}
	}
}
