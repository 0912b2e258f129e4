package slots_test

import (
	"errors"
	"slices"
	"strconv"
	"sync/atomic"
	"testing"

	"butler/api"
	"butler/slots"
	"butler/trial"
	"butler/turn"
)

// What follows is read off the traces alone, without the model. All is of Plays without Op 2.

const nobody = -1

// played is a Play of n slots.
type played struct {
	trial.Told
	n       int
	scripts [][]api.Call
}

// reader goes through a trace.
type reader struct {
	played
	has  []int   // of each slot: who has it, from the change of HEAD that took it to the one that gives it
	took [][]int // of each thread: what it took and has not begun to give, the last one last
	now  []current
}

// current is the call that a thread is in.
type current struct {
	op     int
	slot   int // which one its change of HEAD took or gave; nobody: there was no such change yet
	looked int // how many were nobody's, when it last looked at HEAD
	steps  int
}

func (r *reader) read() error {
	r.has, r.took, r.now = times(r.n, nobody), make([][]int, len(r.scripts)), make([]current, len(r.scripts))
	for i, s := range r.Trace {
		if s.Thread < 0 || s.Op == api.StepWake {
			return errors.New("somebody waits")
		}
		if err := r.step(s); err != nil {
			return errors.New("at " + strconv.Itoa(i) + ": " + err.Error())
		}
	}
	return nil
}

func (r *reader) step(s api.Step) error {
	now := &r.now[s.Thread]
	switch {
	case s.Op == api.StepBegin:
		*now = current{op: r.scripts[s.Thread][s.Old].Op, slot: nobody}
	case s.Op == api.StepEnd:
		return r.end(s.Thread, *now, r.Answers[s.Thread][s.Old])
	case s.Cell == head && trial.Does(s) && now.op == 1:
		now.slot = s.Old%one - 1
		if r.has[now.slot] != nobody {
			return errors.New("somebody has it already")
		}
		r.has[now.slot] = s.Thread
	case s.Cell == head && trial.Does(s):
		now.slot = s.New%one - 1
		if r.has[now.slot] != s.Thread {
			return errors.New("it is not this thread's to give")
		}
		r.has[now.slot] = nobody
	case s.Cell == head && s.Op == api.StepLoad:
		now.looked = r.free()
	}
	now.steps += trial.Number(s.Cell >= 0)
	return nil
}

// free is how many are neither with a thread that took them, nor being given.
func (r *reader) free() int {
	many := 0
	for _, who := range r.has {
		many += trial.Number(who == nobody)
	}
	return many
}

// end looks at what a call has done, and is answered.
func (r *reader) end(thread int, now current, x api.Answer) error {
	mine := &r.took[thread]
	switch {
	case now.op == 1 && x.Code == api.ErrSlotsFull:
		if now.looked != 0 || now.slot != nobody || x.Value != 0 {
			return errors.New("there was a free one")
		}
	case now.op == 1:
		if x != fine(now.slot) {
			return errors.New("it took another one than it says")
		}
		*mine = append(*mine, now.slot)
	case now.op == 3 && len(*mine) > 0:
		last := len(*mine) - 1
		if x != fine((*mine)[last]) || now.slot != x.Value {
			return errors.New("it does not give what it took last")
		}
		*mine = (*mine)[:last]
	case x != arg || now.steps > 0:
		return errors.New("there is nothing to give")
	}
	return nil
}

// noneLost tells whether in the end each slot is a thread's that took it, or free, one behind the other from HEAD on, once.
func (r *reader) noneLost() error {
	stands, left := r.Stands(trial.Slots{Many: r.n}.Cells(0)), slices.Clone(r.has)
	for x := stands[head] % one; x != 0; x = stands[next(x-1)] {
		if left[x-1] != nobody {
			return errors.New("a slot is free twice, or somebody's")
		}
		left[x-1] = 0
	}
	if slices.Contains(left, nobody) {
		return errors.New("a slot is lost")
	}
	for i, who := range r.has {
		if stands[used(i)] != trial.Number(who != nobody) {
			return errors.New("USED says otherwise")
		}
	}
	return nil
}

// follows plays, and asks for all that follows.
func follows(t *testing.T, schedule []int, n int, scripts [][]api.Call) *reader {
	t.Helper()
	told, e := player(n).Tell(schedule, scripts)
	if e != api.OK {
		t.Fatal(schedule, n, scripts, e)
	}
	r := &reader{played: played{told, n, scripts}}
	for _, look := range []func() error{r.read, r.noneLost} {
		if err := look(); err != nil {
			t.Fatalf("%v, %d of %v: %v: %v", schedule, n, scripts, err, told)
		}
	}
	return r
}

// again tells how many changes of HEAD were in vain though the same slot was first: another VERSION told.
func (p played) again() int {
	many, looked := 0, make([]int, len(p.scripts))
	for _, s := range p.Trace {
		switch {
		case s.Cell == head && s.Op == api.StepLoad:
			looked[s.Thread] = s.New
		case s.Cell == head && trial.Fails(s):
			many += trial.Number(s.New%one == looked[s.Thread]%one)
		}
	}
	return many
}

// tidyScript gives all that it takes, in the end at the latest.
func tidyScript(r *trial.Row, most int) []api.Call {
	var out []api.Call
	open := 0
	for len(out)+open+2 <= most {
		op := r.One(1, 1, 3, 3, 5)
		open += trial.Number(op == 1)
		if op == 3 && open > 0 {
			open--
		}
		out = append(out, api.Call{Op: op, A: r.Below(4)})
	}
	return append(out, times(open, ops(3)...)...)
}

// P8.3, P8.4, T6
func TestFollows(t *testing.T) {
	r := trial.Row(3)
	failed, again, full, kept := 0, 0, 0, 0
	for i := range 6000 {
		n := r.Below(r.One(2, 3, 5, 12))
		scripts := r.Scripts(r.One(2, 3, api.MaxThreads), 9, 1, 1, 3, 3, 1+r.Below(2)*3)
		if i%2 == 0 {
			for j := range scripts {
				scripts[j] = tidyScript(&r, r.Below(12))
			}
		}
		p := follows(t, r.Schedule(150), n, scripts)
		if i%2 == 0 && p.free() != n {
			t.Fatalf("%d of %v: %d are free in the end", n, scripts, p.free())
		}
		failed += p.Count(func(s api.Step) bool { return s.Cell == head && trial.Fails(s) })
		again += p.again()
		full += trial.Number(slices.Contains(slices.Concat(p.Answers...), api.Answer{Code: api.ErrSlotsFull}))
		kept += trial.Number(p.free() < n)
	}
	if min(failed, again, full, kept) < 500 {
		t.Errorf("the Plays are too tame: %d failed, %d by the VERSION, %d full, %d with slots that are kept", failed, again, full, kept)
	}
}

func TestFollowsAtTheLimits(t *testing.T) {
	r := trial.Row(4)
	for _, schedule := range [][]int{nil, times(3000, 7, -3, 2, 2, 100)} {
		for _, n := range []int{0, 1, 7, api.MaxSlots} {
			all := make([][]api.Call, api.MaxThreads)
			for i := range all {
				all[i] = tidyScript(&r, api.MaxCalls)
			}
			if p := follows(t, schedule, n, all); p.free() != n {
				t.Error(n, p.free())
			}
			follows(t, schedule, n, times(api.MaxThreads, times(api.MaxCalls, ops(1)...)))
			follows(t, schedule, n, times(api.MaxThreads, times(api.MaxCalls/2, ops(1, 3)...)))
		}
	}
}

// whatever the schedule: all orders there are, against the model, too
func TestInAllOrders(t *testing.T) {
	for _, x := range []struct {
		n       int
		scripts [][]api.Call
	}{
		{3, [][]api.Call{ops(1, 1, 3, 3)}},
		{0, [][]api.Call{ops(1, 3), ops(3, 1)}},
		{1, [][]api.Call{ops(1), ops(1)}},
		{2, [][]api.Call{ops(1), ops(1)}},
		{1, [][]api.Call{ops(1, 3), ops(1)}},
		{2, [][]api.Call{ops(1, 3), ops(1)}},
		{1, [][]api.Call{ops(1, 3), ops(1, 3)}},
		{1, [][]api.Call{ops(1), ops(1), ops(1)}},
	} {
		many := 0
		for schedule := range model(x.n, x.scripts).Schedules {
			plays(t, schedule, x.n, x.scripts)
			follows(t, schedule, x.n, x.scripts)
			many++
		}
		if many < 2 && len(x.scripts) > 1 {
			t.Errorf("%v: %d orders", x, many)
		}
	}
}

// with Op 2, too, there is nothing but what the chapter says, in all orders
func TestGiveInAllOrders(t *testing.T) {
	for _, x := range []struct {
		n       int
		scripts [][]api.Call
	}{
		{1, [][]api.Call{ops(1), script(2, 0)}},
		{1, [][]api.Call{ops(1, 3), script(2, 0)}},
		{2, [][]api.Call{ops(1), script(2, 0, 1, 0)}},
		{1, [][]api.Call{ops(1), script(2, 0), script(2, 0)}},
	} {
		for schedule := range model(x.n, x.scripts).Schedules {
			plays(t, schedule, x.n, x.scripts)
		}
	}
}

// holders lets threads take slots and give back in any order what they took; it tells of a slot that is two threads' at one time.
func holders(w *turn.World, s *slots.Slots, n, rounds int) error {
	var wrong atomic.Pointer[string]
	tell := func(text string) { wrong.Store(&text) }
	has := make([]atomic.Bool, n)
	w.Run(times(api.MaxThreads, func(x *turn.Thread) {
		r, mine := trial.Row(x.Id()), []int{}
		for left := rounds; left > 0 || len(mine) > 0; left-- {
			if left > 0 && (len(mine) == 0 || r.Below(2) == 0) {
				if i, e := s.Take(x); e == api.ErrSlotsFull {
					continue
				} else if e != api.OK || !has[i].CompareAndSwap(false, true) {
					tell("a Take of " + strconv.Itoa(i) + ": " + e.Error())
				} else {
					mine = append(mine, i)
				}
				continue
			}
			at := r.Below(len(mine))
			i := mine[at]
			mine = slices.Delete(mine, at, at+1)
			has[i].Store(false)
			if e := s.Give(x, i); e != api.OK {
				tell("a Give of " + strconv.Itoa(i) + ": " + e.Error())
			}
		}
	}))
	if text := wrong.Load(); text != nil {
		return errors.New(*text)
	}
	return nil
}

// T6, by the slots' own calls
func TestHolders(t *testing.T) {
	for seed := range 40 {
		r := trial.Row(seed)
		for _, n := range []int{0, 1, 2, 5, 30} {
			w := turn.New(r.Schedule(1000))
			s := slots.New(w, n)
			if err := holders(w, s, n, 20); err != nil {
				t.Fatal(n, err)
			}
			end := &reader{played: played{Told: trial.Told{Trace: w.Trace()}, n: n}, has: times(n, nobody)}
			if err := end.noneLost(); err != nil {
				t.Fatal(n, err)
			}
		}
	}
}

// T6, by free threads at one time
func TestHoldersFreely(t *testing.T) {
	for _, n := range []int{0, 1, 2, 5, 30, api.MaxSlots} {
		s, x := slots.New(nil, n), turn.Free(0)
		if err := holders(nil, s, n, 2000); err != nil {
			t.Fatal(n, err)
		}
		var got []int
		for range n {
			i, e := s.Take(x)
			if e != api.OK {
				t.Fatalf("of %d slots %d are lost", n, n-len(got))
			}
			got = append(got, i)
		}
		slices.Sort(got)
		if many := len(slices.Compact(got)); many != n {
			t.Errorf("of %d slots %d are apart", n, many)
		}
		if i, e := s.Take(x); i != 0 || e != api.ErrSlotsFull {
			t.Errorf("of %d slots one more is %d, %v", n, i, e)
		}
	}
}
