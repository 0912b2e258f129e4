package stack_test

import (
	"errors"
	"math"
	"slices"
	"strconv"
	"testing"

	"butler/api"
	"butler/history"
	"butler/stack"
	"butler/trial"
	"butler/turn"
)

// What follows is read off the traces alone, without the model.

// played is a Play with room for n.
type played struct {
	trial.Told
	n       room
	scripts [][]api.Call
}

// reader goes through a trace, and takes each change of HEAD for the time at which its call was carried out.
type reader struct {
	played
	stands []int // on the stack, the top last
	taken  int   // how many slots are not free
	popped int   // how many of these are with Pops that have taken them from the stack
	late   int   // how many Pushes were refused though a Pop had a slot
	now    []current
}

// current is the call that a thread is in.
type current struct {
	call    api.Call
	changes int // of HEAD, by this call
	got     int // what stood on top when it took that away
	looked  int // how many stood there when it last looked at HEAD
	free    int // how many slots were free when it last looked there
}

func (r *reader) read() error {
	r.now = make([]current, len(r.scripts))
	for i, s := range r.Trace {
		if s.Thread < 0 || s.Op > api.StepAdd && s.Op != api.StepBegin && s.Op != api.StepEnd {
			return errors.New("somebody waits")
		}
		if err := r.step(s); err != nil {
			return errors.New("at " + strconv.Itoa(i) + ": " + err.Error())
		}
	}
	return nil
}

func (r *reader) step(s api.Step) error {
	now := &r.now[s.Thread]
	pushes := now.call.Op == 1
	switch {
	case s.Op == api.StepBegin:
		*now = current{call: r.scripts[s.Thread][s.Old]}
	case s.Op == api.StepEnd:
		return r.end(*now, r.Answers[s.Thread][s.Old])
	case s.Cell == r.n.head() && s.Op == api.StepLoad:
		now.looked = len(r.stands)
	case s.Cell == r.n.head() && trial.Does(s):
		return r.change(now)
	case s.Cell == free && s.Op == api.StepLoad:
		now.free = int(r.n) - r.taken
	case s.Cell == free && trial.Does(s) && pushes:
		r.taken++
	case s.Cell == free && trial.Does(s):
		r.taken--
		r.popped--
	}
	return nil
}

func (r *reader) change(now *current) error {
	now.changes++
	if now.call.Op == 1 {
		r.stands = append(r.stands, now.call.A)
		return nil
	}
	last := len(r.stands) - 1
	if last < 0 {
		return errors.New("there is nothing to take")
	}
	now.got, r.stands = r.stands[last], r.stands[:last]
	r.popped++
	return nil
}

// end looks at what a call has done, and is answered.
func (r *reader) end(now current, x api.Answer) error {
	switch {
	case now.call.Op == 1 && x == full:
		r.late += trial.Number(r.popped > 0)
		if now.free != 0 || now.changes != 0 {
			return errors.New("there was a free slot")
		}
	case now.call.Op == 1:
		if x != ok || now.changes != 1 {
			return errors.New("it was not put there once")
		}
	case now.call.Op == 2 && x == empty:
		if now.looked != 0 || now.changes != 0 {
			return errors.New("something stood there")
		}
	case now.call.Op == 2:
		if x != fine(now.got) || now.changes != 1 {
			return errors.New("it is not what stood on top")
		}
	case x != arg || now.changes != 0:
		return errors.New("there is no such call")
	}
	return nil
}

// left is what stands on the stack in the end, the top last, as its cells tell it.
func (p played) left() ([]int, error) {
	var out []int
	cells := p.Stands(p.n.cells())
	for x := cells[p.n.head()] % one; x != 0; x = cells[p.n.link(x-1)] {
		if len(out) == int(p.n) || x < 0 || x > int(p.n) {
			return nil, errors.New("it never ends, or comes to no slot")
		}
		if cells[p.n.used(x-1)] != 1 {
			return nil, errors.New("a slot stands there that is nobody's")
		}
		out = append(out, cells[p.n.value(x-1)])
	}
	slices.Reverse(out)
	return out, nil
}

// whole is P9.3: what was put is what was taken, and what is left; and each slot is free, or stands there.
func (r *reader) whole() error {
	left, err := r.left()
	if err != nil {
		return err
	}
	var put []int
	all := slices.Clone(left)
	for thread, script := range r.scripts {
		for i, c := range script {
			switch x := r.Answers[thread][i]; {
			case c.Op == 1 && x.Code == api.OK:
				put = append(put, c.A)
			case c.Op == 2 && x.Code == api.OK:
				all = append(all, x.Value)
			}
		}
	}
	slices.Sort(put)
	slices.Sort(all)
	if !slices.Equal(put, all) || !slices.Equal(left, r.stands) {
		return errors.New("what was put is not what was taken, and is left")
	}
	if r.taken != len(left) || r.popped != 0 {
		return errors.New("a slot is lost")
	}
	return nil
}

// inOneOrder is P9.4, as far as it is not too long for a history.
func (r *reader) inOneOrder() error {
	l, e := history.Of(r.scripts, r.Answers, r.Trace)
	if e != api.OK {
		return e
	}
	strange := func(x api.Event) bool { return x.Op != 1 && x.Op != 2 } // of these an object knows no answer
	if l = slices.DeleteFunc(l, strange); len(l) > api.MaxHistory {
		return nil
	}
	if linear, e := history.Linear(2, 0, l); !linear || e != api.OK {
		return errors.New("there is no such order")
	}
	return nil
}

// byVersion is P9.5, and P9.6 of both HEADs: a Cas is done just if nobody has changed the cell since its thread looked there, so in vain just if another one was done.
func (r *reader) byVersion() error {
	changes := map[int]int{}
	looked := map[[2]int]int{} // of thread and cell: how many changes there were
	for i, s := range r.Trace {
		at := [2]int{s.Thread, s.Cell}
		switch {
		case s.Op == api.StepLoad:
			looked[at] = changes[s.Cell]
		case s.Op != api.StepCas:
		case s.Cell != free && s.Cell != r.n.head():
			if trial.Fails(s) {
				return errors.New("at " + strconv.Itoa(i) + ": a slot is another one's")
			}
		case trial.Does(s) != (looked[at] == changes[s.Cell]):
			return errors.New("at " + strconv.Itoa(i) + ": a Cas that should not be so")
		case trial.Does(s):
			changes[s.Cell]++
		}
	}
	return nil
}

// notStuck is P9.6.
func (r *reader) notStuck() error {
	stuck := func(x api.Answer) bool { return x.Code == api.ErrStuck }
	if r.Stuck || r.Count(trial.Wakes) > 0 || slices.ContainsFunc(slices.Concat(r.Answers...), stuck) {
		return errors.New("stuck")
	}
	return nil
}

// again tells how many changes of HEAD were in vain though the same slot was on top: another VERSION told.
func (p played) again() int {
	many, looked := 0, make([]int, len(p.scripts))
	for _, s := range p.Trace {
		switch {
		case s.Cell == p.n.head() && s.Op == api.StepLoad:
			looked[s.Thread] = s.New
		case s.Cell == p.n.head() && trial.Fails(s):
			many += trial.Number(s.New%one == looked[s.Thread]%one)
		}
	}
	return many
}

// follows plays, and asks for all that follows.
func follows(t *testing.T, schedule []int, n int, scripts [][]api.Call) *reader {
	t.Helper()
	told, e := player(n).Tell(schedule, scripts)
	if e != api.OK {
		t.Fatal(schedule, n, scripts, e)
	}
	r := &reader{played: played{told, room(n), scripts}}
	for _, look := range []func() error{r.read, r.whole, r.inOneOrder, r.byVersion, r.notStuck} {
		if err := look(); err != nil {
			t.Fatalf("%v, %d of %v: %v: %v", schedule, n, scripts, err, told)
		}
	}
	return r
}

func TestFollows(t *testing.T) {
	r := trial.Row(3)
	failed, again, late, left, short := 0, 0, 0, 0, 0
	for range 12000 {
		n := r.Below(r.One(3, 4, 6, 12))
		p := follows(t, r.Schedule(300), n, someScripts(&r, r.One(2, 3, 4, api.MaxThreads), 6, 1, 1, 2, 2, 1+r.Below(3)))
		failed += p.Count(func(s api.Step) bool { return s.Cell == room(n).head() && trial.Fails(s) })
		again += p.again()
		late += p.late
		left += trial.Number(len(p.stands) > 0)
		short += trial.Number(len(slices.Concat(p.scripts...)) <= api.MaxHistory)
	}
	if min(failed, late, left, short) < 1000 || again < 200 {
		t.Errorf("the Plays are too tame: %d failed, %d by the VERSION alone, %d refused while a Pop has a slot, %d with something left, %d short ones", failed, again, late, left, short)
	}
}

func TestFollowsAtTheLimits(t *testing.T) {
	r := trial.Row(4)
	for _, schedule := range [][]int{nil, times(3000, 7, -3, 2, 2, 100)} {
		for _, n := range []int{0, 1, 7, api.MaxSlots} {
			all := make([][]api.Call, api.MaxThreads)
			for i := range all {
				for range api.MaxCalls {
					all[i] = append(all[i], api.Call{Op: r.One(1, 1, 2), A: r.One(i, -1, math.MaxInt, math.MinInt)})
				}
			}
			follows(t, schedule, n, all)
			follows(t, schedule, n, times(api.MaxThreads, times(api.MaxCalls, push(3))))
			follows(t, schedule, n, times(api.MaxThreads, times(api.MaxCalls/2, push(3), pop)))
		}
	}
}

// whatever the schedule: all orders there are, against the model, too
func TestInAllOrders(t *testing.T) {
	for _, x := range []struct {
		n       int
		scripts [][]api.Call
	}{
		{3, [][]api.Call{{push(1), push(2), pop, pop}}},
		{0, [][]api.Call{{push(1), pop}, {pop, push(2)}}},
		{1, [][]api.Call{{push(1)}, {push(2)}}},
		{1, [][]api.Call{{push(1)}, {pop, pop}}},
		{1, [][]api.Call{{push(1)}, {pop}, {pop}}},
		{2, [][]api.Call{{push(1)}, {push(2)}}},
		{2, [][]api.Call{{push(1)}, {pop}}},
	} {
		many := 0
		for schedule := range room(x.n).model(x.scripts).Schedules {
			plays(t, schedule, x.n, x.scripts)
			follows(t, schedule, x.n, x.scripts)
			many++
		}
		if many < 2 && len(x.scripts) > 1 {
			t.Errorf("%v: %d orders", x, many)
		}
	}
}

// and where something stands there already, against the model alone
func TestAgedInAllOrders(t *testing.T) {
	for _, x := range []struct {
		n       int
		past    past
		scripts [][]api.Call
	}{
		{1, past{0, []int{7}}, [][]api.Call{{pop}, {pop}}},
		{2, past{0, []int{7, 8}}, [][]api.Call{{pop}, {pop}}},
		{1, past{0, []int{7}}, [][]api.Call{{pop}, {push(9)}}},
		{2, past{versions - 2, []int{7}}, [][]api.Call{{pop}, {push(9)}}},
	} {
		for schedule := range room(x.n).game(room(x.n).aged(x.past.version, x.past.values...), x.scripts).Schedules {
			x.past.calls(t, schedule, x.n, x.scripts)
		}
	}
}

// two threads whose turns change few times, at any steps: so the one finds again what the other has taken, given back and put anew
func TestFewChanges(t *testing.T) {
	again := 0
	for _, x := range []struct {
		n       int
		scripts [][]api.Call
	}{
		{1, [][]api.Call{{push(1), pop, pop}, {pop, push(2), pop}}},
		{2, [][]api.Call{{push(1), push(2), pop}, {pop, push(3)}}},
		{2, [][]api.Call{{push(1), pop}, {pop, push(2), push(3)}}},
		{3, [][]api.Call{{push(1), push(2), pop}, {pop, pop, push(3)}}},
	} {
		for first := range 20 {
			for second := range 26 {
				for third := range 10 {
					schedule := slices.Concat(times(first, 0), times(second, 1), times(third, 0), times(100, 1))
					again += follows(t, schedule, x.n, x.scripts).again()
				}
			}
		}
	}
	if again < 100 {
		t.Errorf("only %d by the VERSION alone", again)
	}
}

// P9.3, by free threads at one time
func TestManyFreely(t *testing.T) {
	const rounds = 2000
	for _, n := range []int{0, 1, 2, 5, 30, api.MaxSlots} {
		s := stack.New(nil, n)
		put, took := make([][]int, api.MaxThreads), make([][]int, api.MaxThreads+1)
		strange := make([]int, api.MaxThreads)
		var none *turn.World
		none.Run(times(api.MaxThreads, func(x *turn.Thread) {
			r, id := trial.Row(x.Id()), x.Id()
			for i := range rounds {
				if v := id*rounds + i; r.Below(2) == 0 {
					e := s.Push(x, v)
					if e == api.OK {
						put[id] = append(put[id], v)
					}
					strange[id] += trial.Number(e != api.OK && e != api.ErrSlotsFull)
					continue
				}
				v, e := s.Pop(x)
				if e == api.OK {
					took[id] = append(took[id], v)
				}
				strange[id] += trial.Number(e != api.OK && (e != api.ErrStackEmpty || v != 0))
			}
		}))
		rest := &took[api.MaxThreads]
		for v, e := s.Pop(turn.Free(0)); e == api.OK; v, e = s.Pop(turn.Free(0)) {
			*rest = append(*rest, v)
		}
		in, out := slices.Concat(put...), slices.Concat(took...)
		slices.Sort(in)
		slices.Sort(out)
		if !slices.Equal(in, out) || slices.Max(strange) > 0 || len(*rest) > n {
			t.Errorf("room for %d: %d were put, %d taken, %d of them in the end, %v strange answers", n, len(in), len(out), len(*rest), strange)
		}
		for i := range n + 1 {
			if e := s.Push(turn.Free(0), i); (e == api.OK) != (i < n) {
				t.Fatalf("room for %d: the Push %d: %v", n, i, e)
			}
		}
	}
}
