package latch_test

import (
	"errors"
	"slices"
	"testing"

	"butler/api"
	"butler/history"
	"butler/trial"
)

// What follows is read off the traces alone, without the model.

// played is a Play of a latch that stood at n.
type played struct {
	trial.Told
	n       int
	scripts [][]api.Call
}

// isEnd tells whether a step is the end of a call of that Op.
func (p played) isEnd(s api.Step, op int) bool {
	return s.Op == api.StepEnd && p.scripts[s.Thread][s.Old].Op == op
}

// counts is P5.4: no more than n Downs are OK, and none is too low ahead of the n-th of them.
func (p played) counts() error {
	done := 0
	for _, s := range p.Trace {
		if !p.isEnd(s, 1) {
			continue
		}
		switch api.Errno(s.New) {
		case api.OK:
			done++
		case api.ErrLatchLow:
			if done < p.n {
				return errors.New("too low ahead of the last one")
			}
		default:
			return errors.New("a Down that is neither done nor too low")
		}
	}
	if done > p.n {
		return errors.New("too many are OK")
	}
	return nil
}

// waits is P5.5: who waited with success did so till behind the n-th Down's Cas; if there were so many, nobody is stuck; if there can't be so many, everybody is.
func (p played) waits() error {
	done, fine, vain, all := 0, 0, 0, 0
	for _, s := range p.Trace {
		switch {
		case trial.Does(s):
			done++
		case p.isEnd(s, 2) && s.New == int(api.OK):
			fine++
			if done < p.n {
				return errors.New("it did not wait")
			}
		case p.isEnd(s, 2):
			vain++
		}
	}
	for _, c := range slices.Concat(p.scripts...) {
		all += trial.Number(c.Op == 1)
	}
	if done == p.n && (vain > 0 || p.Stuck) {
		return errors.New("stuck, though all have come")
	}
	if all < p.n && fine > 0 {
		return errors.New("not stuck, though some can't come")
	}
	return nil
}

// follows plays, and asks for all that follows.
func follows(t *testing.T, schedule []int, n int, scripts [][]api.Call) played {
	t.Helper()
	told, e := player(n).Tell(schedule, scripts)
	if e != api.OK {
		t.Fatal(schedule, n, scripts, e)
	}
	p := played{told, n, scripts}
	for i, err := range []error{p.counts(), p.waits()} {
		if err != nil {
			t.Fatalf("P5.%d: %v, %d of %v: %v: %v", 4+i, schedule, n, scripts, err, told)
		}
	}
	return p
}

func TestFollows(t *testing.T) {
	r := trial.Row(2)
	failed, stucks, woken := 0, 0, 0
	for range 4000 {
		p := follows(t, r.Schedule(80), r.Below(r.One(2, 4, 12)), r.Scripts(r.One(2, 3, api.MaxThreads), 6, 1, 1, 2, r.One(1, 2, 3)))
		failed += p.Count(trial.Fails)
		woken += p.Count(trial.Wakes)
		stucks += trial.Number(p.Stuck)
	}
	if min(failed, woken, stucks) < 500 {
		t.Errorf("the Plays are too tame: %d failed, %d woken, %d stuck", failed, woken, stucks)
	}
}

func TestFollowsAtTheLimits(t *testing.T) {
	downs := slices.Repeat([][]api.Call{slices.Repeat(ops(1), api.MaxCalls)}, api.MaxThreads-1)
	for _, schedule := range [][]int{nil, slices.Repeat([]int{7, -3, 2, 2, 100}, 2000)} {
		for _, n := range []int{0, 1, 100, 7*64 - 1, 7 * 64, 7*64 + 1} {
			p := follows(t, schedule, n, append(slices.Clone(downs), ops(2, 2)))
			if p.Stuck != (n > 7*64) {
				t.Errorf("of %d: stuck %v", n, p.Stuck)
			}
		}
	}
}

// whatever the schedule: all orders there are, against the model, too
func TestInAllOrders(t *testing.T) {
	for _, x := range [][][]api.Call{
		{ops(1, 2, 1)},
		{ops(1), ops(1)},
		{ops(1), ops(2)},
		{ops(2, 1), ops(2)},
		{ops(2, 1), ops(1, 2)},
		{ops(1, 1), ops(2, 2)},
		{ops(1, 1), ops(1, 1)},
		{ops(1), ops(1), ops(2)},
		{ops(1, 2), ops(1, 2)},
		{ops(1), ops(2), ops(2)},
		{ops(1, 3), ops(2), ops(1)},
	} {
		for n := range 4 {
			many := 0
			for schedule := range model(n, x).Schedules {
				plays(t, schedule, n, x)
				follows(t, schedule, n, x)
				many++
			}
			if many < 2 && len(x) > 1 {
				t.Errorf("%d of %v: %d orders", n, x, many)
			}
		}
	}
}

// T5: what was told could have been told by calls one behind the other
func TestLinear(t *testing.T) {
	r := trial.Row(3)
	stucks := 0
	for range 3000 {
		n := r.Below(5)
		p := follows(t, r.Schedule(50), n, r.Scripts(4, 3, 1, 1, 2))
		l, e := history.Of(p.scripts, p.Answers, p.Trace)
		if e != api.OK {
			t.Fatal(e)
		}
		if linear, e := history.Linear(4, n, l); !linear || e != api.OK {
			t.Fatalf("%d: %v: %v, error %d", n, l, linear, e)
		}
		stucks += trial.Number(p.Stuck)
	}
	if stucks < 100 {
		t.Errorf("only %d were stuck", stucks)
	}
}
