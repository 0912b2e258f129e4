package gate_test

import (
	"errors"
	"slices"
	"strconv"
	"testing"

	"butler/api"
	"butler/gate"
	"butler/trial"
)

// What follows is read off the traces alone, without the model.

// played is a Play of these scripts.
type played struct {
	trial.Told
	scripts [][]api.Call
}

// call is one of a Play, as its trace tells it: when it began, how often its Cas was done, and when that was.
type call struct {
	op     int
	begun  int
	cas    int
	at     int
	ended  int // -1: it never did
	answer api.Answer
}

// calls are those that have begun, and, step by step, which one does it (-1: none).
func (p played) calls() ([]call, []int) {
	var all []call
	by, current := make([]int, len(p.Trace)), make([]int, len(p.scripts))
	for i, s := range p.Trace {
		if by[i] = -1; s.Thread < 0 {
			continue
		}
		if s.Op == api.StepBegin {
			current[s.Thread] = len(all)
			all = append(all, call{op: p.scripts[s.Thread][s.Old].Op, begun: i, at: -1, ended: -1})
		}
		by[i] = current[s.Thread]
		c := &all[by[i]]
		switch {
		case trial.Does(s):
			c.cas, c.at = c.cas+1, i
		case s.Op == api.StepEnd:
			c.ended, c.answer = i, p.Answers[s.Thread][s.Old]
		}
	}
	return all, by
}

// inAndOut is P6.3: at each time GATE / 2 is how many Enters have done their Cas, less how many Leaves; and those that have are OK, and no others.
func (p played) inAndOut() error {
	calls, by := p.calls()
	in := 0
	for i, s := range p.Trace {
		if trial.Does(s) {
			in += trial.Number(calls[by[i]].op == 1) - trial.Number(calls[by[i]].op == 2)
		}
		if s.Op <= api.StepAdd && s.New/2 != in {
			return errors.New("at the step " + strconv.Itoa(i) + " there are others in than " + strconv.Itoa(in))
		}
	}
	for _, c := range calls {
		if c.op <= 2 && c.op >= 1 && c.cas != trial.Number(c.answer.Code == api.OK) {
			return errors.New("an Enter or a Leave is OK without a Cas, or has done one in vain")
		}
	}
	return nil
}

// shutForGood is P6.4: one Shut is the first; behind its Cas nobody enters; who comes back from one finds nobody in, for ever.
func (p played) shutForGood() error {
	calls, by := p.calls()
	barred := len(p.Trace)
	for _, c := range calls {
		if c.op != 3 || c.cas == 0 {
			continue
		}
		if barred < len(p.Trace) || c.cas > 1 {
			return errors.New("there are two first ones")
		}
		barred = c.at
	}
	back := len(p.Trace)
	for _, c := range calls {
		switch {
		case c.op == 1 && c.at > barred:
			return errors.New("an Enter behind the first Shut's Cas")
		case c.op == 1 && c.begun > barred && c.answer.Code != api.ErrGateShut:
			return errors.New("an Enter that began behind the first Shut's Cas is answered otherwise")
		case c.op == 3 && c.answer.Value != trial.Number(c.answer.Code == api.OK && c.cas == 1):
			return errors.New("who was first is told wrong")
		case c.op == 3 && c.answer.Code == api.OK && c.ended < back:
			back = c.ended
		}
	}
	in := 0
	for i, s := range p.Trace {
		if trial.Does(s) {
			in += trial.Number(calls[by[i]].op == 1) - trial.Number(calls[by[i]].op == 2)
		}
		if i >= back && in != 0 {
			return errors.New("a Shut is OK, and somebody is in")
		}
	}
	return nil
}

// tidy tells whether in each script each Enter has a Leave of its own behind it, ahead of the next Shut.
func tidy(scripts [][]api.Call) bool {
	for _, calls := range scripts {
		open := 0
		for _, c := range calls {
			switch {
			case c.Op == 1:
				open++
			case c.Op == 2:
				open = max(0, open-1)
			case c.Op == 3 && open > 0:
				return false
			}
		}
		if open > 0 {
			return false
		}
	}
	return true
}

// notStuck is P6.5: if the scripts are tidy, nobody is stuck, and in the end nobody is in.
func (p played) notStuck() error {
	if !tidy(p.scripts) {
		return nil
	}
	if p.Stuck || slices.Contains(slices.Concat(p.Answers...), stuck) {
		return errors.New("stuck")
	}
	stands := 0
	for _, s := range p.Trace {
		if s.Op <= api.StepAdd {
			stands = s.New
		}
	}
	if stands > 1 {
		return errors.New("in the end somebody is in")
	}
	return nil
}

// follows plays, and asks for all that follows.
func follows(t *testing.T, schedule []int, scripts [][]api.Call) played {
	t.Helper()
	told, e := trial.Player(gate.Play).Tell(schedule, scripts)
	if e != api.OK {
		t.Fatal(schedule, scripts, e)
	}
	p := played{told, scripts}
	for i, err := range []error{p.inAndOut(), p.shutForGood(), p.notStuck()} {
		if err != nil {
			t.Fatalf("P6.%d: %v of %v: %v: %v", 3+i, schedule, scripts, err, told)
		}
	}
	return p
}

func TestFollows(t *testing.T) {
	r := trial.Row(3)
	failed, woken, stucks := 0, 0, 0
	for range 4000 {
		p := follows(t, r.Schedule(80), r.Scripts(r.One(2, 3, api.MaxThreads), 6, 1, 1, 2, 2, 2, 3, r.One(1, 2, 3, 4)))
		failed += p.Count(trial.Fails)
		woken += p.Count(trial.Wakes)
		stucks += trial.Number(p.Stuck)
	}
	if min(failed, woken, stucks) < 500 {
		t.Errorf("the Plays are too tame: %d failed, %d woken, %d stuck", failed, woken, stucks)
	}
}

// tidyScript is one in which each Enter has a Leave of its own ahead of the next Shut; some Leaves are nobody's.
func tidyScript(r *trial.Row, most int) []api.Call {
	var out []api.Call
	open := 0
	for len(out)+open < most {
		op := r.One(1, 1, 2, 3)
		if op == 3 && open > 0 || op == 1 && len(out)+open+2 > most {
			op = 2
		}
		switch op {
		case 1:
			open++
		case 2:
			open = max(0, open-1)
		}
		out = append(out, api.Call{Op: op})
	}
	return append(out, slices.Repeat(ops(2), open)...)
}

func TestTidy(t *testing.T) {
	r := trial.Row(4)
	failed, woken, refused := 0, 0, 0
	for range 4000 {
		all := make([][]api.Call, 1+r.Below(api.MaxThreads))
		for i := range all {
			all[i] = tidyScript(&r, r.One(0, 1, 2, 4, 8, 12))
		}
		if !tidy(all) {
			t.Fatal(all)
		}
		p := follows(t, r.Schedule(120), all)
		failed += p.Count(trial.Fails)
		woken += p.Count(trial.Wakes)
		refused += trial.Number(slices.Contains(slices.Concat(p.Answers...), shut))
	}
	if min(failed, woken, refused) < 500 {
		t.Errorf("the Plays are too tame: %d failed, %d woken, %d refused", failed, woken, refused)
	}
}

// what is not tidy can be stuck
func TestUntidy(t *testing.T) {
	for _, x := range [][][]api.Call{{ops(1, 3)}, {ops(1, 3, 2)}, {ops(2, 1, 3)}, {ops(1, 1, 2, 3, 2)}, {ops(1), ops(3)}, {ops(1, 2, 1), ops(1, 3, 2)}} {
		if tidy(x) {
			t.Error(x)
		}
		if p := follows(t, slices.Repeat([]int{0}, 50), x); !p.Stuck {
			t.Error(p)
		}
	}
}

func TestFollowsAtTheLimits(t *testing.T) {
	r := trial.Row(5)
	for _, schedule := range [][]int{nil, slices.Repeat([]int{7, -3, 2, 2, 100}, 2000)} {
		all := make([][]api.Call, api.MaxThreads)
		for i := range all {
			all[i] = tidyScript(&r, api.MaxCalls)
		}
		follows(t, schedule, all)
		follows(t, schedule, slices.Repeat([][]api.Call{slices.Repeat(ops(1, 2), api.MaxCalls/2)}, api.MaxThreads))
		last := slices.Repeat([][]api.Call{append(slices.Repeat(ops(1, 1, 2, 2), api.MaxCalls/4-1), ops(3, 1, 2, 3)...)}, api.MaxThreads)
		p := follows(t, schedule, last)
		if a := p.Answers[0]; a[api.MaxCalls-3] != shut || a[api.MaxCalls-1] != fine {
			t.Error(a)
		}
	}
}

// whatever the schedule: all orders there are, against the model, too
func TestInAllOrders(t *testing.T) {
	for _, x := range [][][]api.Call{
		{ops(1, 2, 3, 1)},
		{ops(1), ops(1)},
		{ops(1), ops(2)},
		{ops(1), ops(3)},
		{ops(3), ops(3)},
		{ops(1, 2), ops(3)},
		{ops(1, 2), ops(1, 2)},
		{ops(1, 3), ops(2)},
		{ops(1, 3), ops(3)},
		{ops(1, 1, 2), ops(2, 3)},
		{ops(1, 2), ops(3, 1)},
		{ops(1), ops(2), ops(3)},
		{ops(1, 2), ops(3, 3)},
		{ops(3), ops(3), ops(1)},
		{ops(1, 2), ops(2), ops(3)},
		{ops(1, 2), ops(1, 2, 3)},
	} {
		many := 0
		for schedule := range model(x).Schedules {
			plays(t, schedule, x)
			follows(t, schedule, x)
			many++
		}
		if many < 2 && len(x) > 1 {
			t.Errorf("%v: %d orders", x, many)
		}
	}
}
