package stack_test

import (
	"math"
	"slices"
	"testing"

	"butler/api"
	"butler/cell"
	"butler/play"
	"butler/stack"
	"butler/trial"
	"butler/turn"
)

// short names for what nearly every row is made of
func push(v int) api.Call                 { return api.Call{Op: 1, A: v} }
func fine(v int) api.Answer               { return api.Answer{Value: v} }
func load(thread, at, v int) api.Step     { return trial.Step(thread, at, api.StepLoad, v, v) }
func store(thread, at, v, x int) api.Step { return trial.Step(thread, at, api.StepStore, v, x) }
func cas(thread, at, v, x int) api.Step   { return trial.Step(thread, at, api.StepCas, v, x) }
func vain(thread, at, v int) api.Step     { return trial.Step(thread, at, api.StepCas, v, v) }

var (
	pop   = api.Call{Op: 2}
	ok    = api.Answer{}
	arg   = api.Answer{Code: api.ErrArg}
	full  = api.Answer{Code: api.ErrSlotsFull}
	empty = api.Answer{Code: api.ErrStackEmpty}
)

func calls(l ...api.Call) []api.Call       { return l }
func answers(l ...api.Answer) []api.Answer { return l }
func steps(l ...api.Step) []api.Step       { return l }

// times is a list, so many times one behind the other.
func times[T any](many int, l ...T) []T { return slices.Repeat(l, many) }

const room1, room2, room3 = room(1), room(2), room(3)

// there is what a call finds: in the slots' HEAD, in HEAD, and in its slot's NEXT, VALUE and LINK.
type there struct{ free, head, next, value, link int }

// newer is a HEAD behind h, if its VERSION does not go round.
func newer(h, beside int) int { return one*(h/one+1) + beside }

// pushes is all that a Push of v into the slot i does, alone.
func (n room) pushes(thread, i, v int, x there) []api.Step {
	return steps(
		load(thread, free, x.free), load(thread, n.next(i), x.next), cas(thread, free, x.free, newer(x.free, x.next)), store(thread, n.used(i), 0, 1),
		store(thread, n.value(i), x.value, v), load(thread, n.head(), x.head), store(thread, n.link(i), x.link, x.head%one), cas(thread, n.head(), x.head, newer(x.head, i+1)))
}

// pops is all that a Pop from the slot i does, alone.
func (n room) pops(thread, i int, x there) []api.Step {
	return steps(
		load(thread, n.head(), x.head), load(thread, n.link(i), x.link), cas(thread, n.head(), x.head, newer(x.head, x.link)), load(thread, n.value(i), x.value),
		cas(thread, n.used(i), 1, 0), load(thread, free, x.free), store(thread, n.next(i), x.next, x.free%one), cas(thread, free, x.free, newer(x.free, i+1)))
}

// does is one of a stack's own calls.
func does(s *stack.Stack) func(t *turn.Thread, c api.Call) api.Answer {
	return func(t *turn.Thread, c api.Call) api.Answer {
		if c.Op == 1 {
			return api.Answer{Code: s.Push(t, c.A)}
		}
		v, e := s.Pop(t)
		return api.Answer{Code: e, Value: v}
	}
}

// player is Play with room for n.
func player(n int) trial.Player {
	return func(w *turn.World, scripts [][]api.Call) ([][]api.Answer, api.Errno) {
		return stack.Play(w, n, scripts)
	}
}

// plays carries a Play out that may not fail, and holds it against the model.
func plays(t *testing.T, schedule []int, n int, scripts [][]api.Call) trial.Told {
	t.Helper()
	got, e := player(n).Tell(schedule, scripts)
	if want := room(n).model(scripts).Play(schedule); e != api.OK || !got.Same(want) {
		t.Fatalf("%v, %d of %v: error %d,\n%v\nis to be\n%v", schedule, n, scripts, e, got, want)
	}
	return got
}

// past is what a stack has behind it: with which VERSION it began, and what was put on it then.
type past struct {
	version int
	values  []int
}

// tells carries scripts out by the stack's own calls.
func (x past) tells(schedule []int, n int, scripts [][]api.Call) trial.Told {
	told, _ := trial.Player(func(w *turn.World, scripts [][]api.Call) ([][]api.Answer, api.Errno) {
		return play.Run(w, scripts, does(stack.Aged(w, n, x.version, x.values...))), api.OK
	}).Tell(schedule, scripts)
	return told
}

// calls does so, and holds it against the model.
func (x past) calls(t *testing.T, schedule []int, n int, scripts [][]api.Call) trial.Told {
	t.Helper()
	got := x.tells(schedule, n, scripts)
	if want := room(n).game(room(n).aged(x.version, x.values...), scripts).Play(schedule); !got.Same(want) {
		t.Fatalf("%v, %d, %v of %v:\n%v\nis to be\n%v", schedule, n, x, scripts, got, want)
	}
	return got
}

// P9.1

// filled is what one thread does that pushes -1, -2 and so on, once more than there is room, and then pops all, and once more.
func (n room) filled() ([]api.Step, []api.Answer) {
	many := int(n)
	var done []api.Step
	var told []api.Answer
	for i := range many {
		x := there{free: one*i + i + 1, head: one*i + i, next: (i + 2) % (many + 1)}
		done, told = append(done, n.pushes(0, i, -1-i, x)...), append(told, ok)
	}
	done, told = append(done, load(0, free, one*many)), append(told, full)
	for i := many - 1; i >= 0; i-- {
		behind, age := (i+2)%(many+1), one*(2*many-1-i)
		x := there{free: age + behind, head: age + i + 1, next: behind, value: -1 - i, link: i}
		done, told = append(done, n.pops(0, i, x)...), append(told, fine(-1-i))
	}
	return append(done, load(0, n.head(), one*2*many)), append(told, empty)
}

// New makes the slots' cells, HEAD, then VALUE and LINK of each slot; all else than the slots' is 0
func TestNew(t *testing.T) {
	for _, x := range []struct{ n, many int }{
		{0, 0}, {1, 1}, {2, 2}, {3, 3}, {64, 64}, {api.MaxSlots - 1, 999}, {api.MaxSlots, 1000},
		{-1, 0}, {-api.MaxSlots, 0}, {math.MinInt, 0}, {api.MaxSlots + 1, 1000}, {1 << 32, 1000}, {math.MaxInt, 1000},
	} {
		for _, ahead := range []int{0, 1, 4} {
			w := turn.New(nil)
			for range ahead {
				cell.New(w, 9)
			}
			s := stack.New(w, x.n)
			if behind := w.Cell(); behind != ahead+4*x.many+2 {
				t.Errorf("room for %d behind %d cells takes %d", x.n, ahead, behind-ahead)
			}
			want, told := room(x.many).filled()
			for i := range want {
				want[i].Cell += ahead
			}
			var script []api.Call
			for i := range x.many + 1 {
				script = append(script, push(-1-i))
			}
			got := trial.Calls(w, [][]api.Call{append(script, times(x.many+1, pop)...)}, does(s))
			if !slices.Equal(w.Trace(), want) || !slices.Equal(got[0], told) {
				t.Errorf("room for %d behind %d cells: %v, %v", x.n, ahead, got, w.Trace())
			}
		}
	}
}

// the stacks of a world know nothing of each other
func TestTwo(t *testing.T) {
	w := turn.New(nil)
	a, b := stack.New(w, 2), stack.New(w, 1)
	var got []api.Answer
	w.Run([]func(*turn.Thread){func(x *turn.Thread) {
		for i, c := range calls(push(1), push(2), pop, pop) {
			c.A *= 10
			got = append(got, does(a)(x, c))
			c.A += i
			got = append(got, does(b)(x, c))
		}
	}})
	if !slices.Equal(got, answers(ok, ok, ok, full, fine(20), fine(10), fine(10), empty)) {
		t.Error(got)
	}
}

// by hand: what one thread does alone, from any VERSION on
func TestAlone(t *testing.T) {
	const last = one * (versions - 1) // what is highest, with no slot
	for i, x := range []struct {
		n       room
		past    past
		calls   []api.Call
		want    []api.Step
		answers []api.Answer
	}{
		{1, past{}, calls(push(7), pop), slices.Concat(room1.pushes(0, 0, 7, there{free: 1}), room1.pops(0, 0, there{free: one, head: one + 1, value: 7})), answers(ok, fine(7))},
		{2, past{}, calls(push(7), push(8), pop, push(9), pop, pop), slices.Concat(
			room2.pushes(0, 0, 7, there{free: 1, next: 2}), room2.pushes(0, 1, 8, there{free: one + 2, head: one + 1}),
			room2.pops(0, 1, there{free: 2 * one, head: 2*one + 2, value: 8, link: 1}),
			room2.pushes(0, 1, 9, there{free: 3*one + 2, head: 3*one + 1, value: 8, link: 1}),
			room2.pops(0, 1, there{free: 4 * one, head: 4*one + 2, value: 9, link: 1}),
			room2.pops(0, 0, there{free: 5*one + 2, head: 5*one + 1, next: 2, value: 7})), answers(ok, ok, fine(8), ok, fine(9), fine(7))},
		{1, past{}, calls(pop, push(7), push(8), pop, pop), slices.Concat(
			steps(load(0, 3, 0)), room1.pushes(0, 0, 7, there{free: 1}), steps(load(0, 0, one)), room1.pops(0, 0, there{free: one, head: one + 1, value: 7}), steps(load(0, 3, 2*one))),
			answers(empty, ok, full, fine(7), empty)},
		{0, past{}, calls(push(7), pop, push(8)), steps(load(0, 0, 0), load(0, 1, 0), load(0, 0, 0)), answers(full, empty, full)},
		{2, past{values: []int{4, 5}}, calls(push(6), pop), append(steps(load(0, 0, 2*one)), room2.pops(0, 1, there{free: 2 * one, head: 2*one + 2, value: 5, link: 1})...), answers(full, fine(5))},
		// VERSION goes round, by a Push
		{1, past{version: versions - 1}, calls(push(7), pop), slices.Concat(
			room1.pushes(0, 0, 7, there{free: 1, head: last})[:7], steps(cas(0, 3, last, 1)), room1.pops(0, 0, there{free: one, head: 1, value: 7})), answers(ok, fine(7))},
		// by a Pop that leaves nothing
		{1, past{version: versions - 2}, calls(push(7), pop, pop), slices.Concat(
			room1.pushes(0, 0, 7, there{free: 1, head: last - one}), steps(load(0, 3, last+1), load(0, 5, 0), cas(0, 3, last+1, 0)),
			room1.pops(0, 0, there{free: one, head: one, value: 7})[3:], steps(load(0, 3, 0))), answers(ok, fine(7), empty)},
		// and by one that leaves something
		{2, past{version: versions - 3, values: []int{7, 8}}, calls(pop, pop), slices.Concat(
			steps(load(0, 5, last+2), load(0, 9, 1), cas(0, 5, last+2, 1)), room2.pops(0, 1, there{free: 2 * one, head: one, value: 8})[3:],
			room2.pops(0, 0, there{free: 3*one + 2, head: 1, next: 2, value: 7})), answers(fine(8), fine(7))},
		{0, past{version: versions - 1}, calls(pop), steps(load(0, 1, last)), answers(empty)},
	} {
		w := turn.New(nil)
		s := stack.Aged(w, int(x.n), x.past.version, x.past.values...)
		got := trial.Calls(w, [][]api.Call{x.calls}, does(s))
		if !slices.Equal(w.Trace(), x.want) || !slices.Equal(got[0], x.answers) {
			t.Errorf("%d: %v\n%v\nis to be\n%v", i, got, w.Trace(), x.want)
		}
	}
}

// by hand: threads that come at one time
func TestTogether(t *testing.T) {
	for _, x := range []struct {
		name     string
		n        int
		values   []int // they stand there already
		schedule []int
		scripts  [][]api.Call
		want     []api.Step
		answers  [][]api.Answer
	}{
		{"two Pushes, of which one is too late", 2, nil, append(times(7, 0), times(8, 1)...), [][]api.Call{{push(7)}, {push(8)}},
			slices.Concat(room2.pushes(0, 0, 7, there{free: 1, next: 2})[:7], room2.pushes(1, 1, 8, there{free: one + 2}),
				steps(vain(0, 5, one+2), load(0, 5, one+2), store(0, 7, 0, 2), cas(0, 5, one+2, 2*one+1))),
			[][]api.Answer{{ok}, {ok}}},
		{"two Pops, of which one is too late", 2, []int{7, 8}, append(times(2, 0), times(8, 1)...), [][]api.Call{{pop}, {pop}},
			slices.Concat(steps(load(0, 5, 2*one+2), load(0, 9, 1)), room2.pops(1, 1, there{free: 2 * one, head: 2*one + 2, value: 8, link: 1}),
				steps(vain(0, 5, 3*one+1)), room2.pops(0, 0, there{free: 3*one + 2, head: 3*one + 1, next: 2, value: 7})),
			[][]api.Answer{{fine(7)}, {fine(8)}}},
		{"two Pops of the last one", 1, []int{7}, append(times(2, 0), times(3, 1)...), [][]api.Call{{pop}, {pop}},
			slices.Concat(steps(load(0, 3, one+1), load(0, 5, 0)), room1.pops(1, 0, there{head: one + 1})[:3], steps(vain(0, 3, 2*one), load(1, 4, 7), load(0, 3, 2*one)),
				room1.pops(1, 0, there{free: one})[4:]),
			[][]api.Answer{{empty}, {fine(7)}}},
		{"a Pop, and a slot that is on top again behind its look, with another one below", 3, []int{7, 8}, append(times(2, 0), times(24, 1)...), [][]api.Call{{pop}, {pop, pop, push(9)}},
			slices.Concat(steps(load(0, 7, 2*one+2), load(0, 11, 1)), room3.pops(1, 1, there{free: 2*one + 3, head: 2*one + 2, next: 3, value: 8, link: 1}),
				room3.pops(1, 0, there{free: 3*one + 2, head: 3*one + 1, next: 2, value: 7}), room3.pushes(1, 0, 9, there{free: 4*one + 1, head: 4 * one, next: 2, value: 7}),
				steps(vain(0, 7, 5*one+1)), room3.pops(0, 0, there{free: 5*one + 2, head: 5*one + 1, next: 2, value: 9})),
			[][]api.Answer{{fine(9)}, {fine(8), fine(7), ok}}},
		{"a Pop, and the same TOP with another VERSION", 1, []int{7}, append(times(2, 0), times(16, 1)...), [][]api.Call{{pop}, {pop, push(9)}},
			slices.Concat(steps(load(0, 3, one+1), load(0, 5, 0)), room1.pops(1, 0, there{free: one, head: one + 1, value: 7}), room1.pushes(1, 0, 9, there{free: 2*one + 1, head: 2 * one, value: 7}),
				steps(vain(0, 3, 3*one+1)), room1.pops(0, 0, there{free: 3 * one, head: 3*one + 1, value: 9})),
			[][]api.Answer{{fine(9)}, {fine(7), ok}}},
		{"a Push, and the same TOP with another VERSION", 2, []int{7}, append(times(7, 0), times(16, 1)...), [][]api.Call{{push(8)}, {pop, push(9)}},
			slices.Concat(room2.pushes(0, 1, 8, there{free: one + 2, head: one + 1})[:7], room2.pops(1, 0, there{free: 2 * one, head: one + 1, next: 2, value: 7}),
				room2.pushes(1, 0, 9, there{free: 3*one + 1, head: 2 * one, value: 7}), steps(vain(0, 5, 3*one+1), load(0, 5, 3*one+1), store(0, 9, 1, 1), cas(0, 5, 3*one+1, 4*one+2))),
			[][]api.Answer{{ok}, {fine(7), ok}}},
		{"a Push, and an empty stack that is empty again", 2, nil, append(times(7, 0), times(16, 1)...), [][]api.Call{{push(8)}, {push(9), pop}},
			slices.Concat(room2.pushes(0, 0, 8, there{free: 1, next: 2})[:7], room2.pushes(1, 1, 9, there{free: one + 2}),
				room2.pops(1, 1, there{free: 2 * one, head: one + 2, value: 9}), steps(vain(0, 5, 2*one), load(0, 5, 2*one), store(0, 7, 0, 0), cas(0, 5, 2*one, 3*one+1))),
			[][]api.Answer{{ok}, {ok, fine(9)}}},
		{"a Push while another one has the slot, and has not put it there", 1, nil, append(times(7, 0), 1, 1), [][]api.Call{{push(7)}, {pop, push(8)}},
			slices.Concat(room1.pushes(0, 0, 7, there{free: 1})[:7], steps(load(1, 3, 0), load(1, 0, one), cas(0, 3, 0, one+1))),
			[][]api.Answer{{ok}, {empty, full}}},
		{"a Push while a Pop has taken its slot, and has not given it back", 1, []int{7}, append(times(3, 0), 1), [][]api.Call{{pop}, {push(8)}},
			slices.Concat(room1.pops(0, 0, there{head: one + 1})[:3], steps(load(1, 0, one)), room1.pops(0, 0, there{free: one, value: 7})[3:]),
			[][]api.Answer{{fine(7)}, {full}}},
		{"a Push right ahead of its giving it back", 1, []int{7}, append(times(7, 0), 1), [][]api.Call{{pop}, {push(8)}},
			slices.Concat(room1.pops(0, 0, there{free: one, head: one + 1, value: 7})[:7], steps(load(1, 0, one)), room1.pops(0, 0, there{free: one})[7:]),
			[][]api.Answer{{fine(7)}, {full}}},
		{"a Push right behind its giving it back", 1, []int{7}, append(times(8, 0), 1), [][]api.Call{{pop}, {push(8)}},
			slices.Concat(room1.pops(0, 0, there{free: one, head: one + 1, value: 7}), room1.pushes(1, 0, 8, there{free: 2*one + 1, head: 2 * one, value: 7})),
			[][]api.Answer{{fine(7)}, {ok}}},
	} {
		w := turn.New(x.schedule)
		s := stack.Aged(w, x.n, 0, x.values...)
		got := trial.Calls(w, x.scripts, does(s))
		if !slices.Equal(w.Trace(), x.want) || !trial.Same(got, x.answers) {
			t.Errorf("%s: %v\n%v\nis to be\n%v", x.name, got, w.Trace(), x.want)
		}
	}
}

// someScripts push all kinds of numbers.
func someScripts(r *trial.Row, threads, most int, ops ...int) [][]api.Call {
	out := r.Scripts(threads, most, ops...)
	for _, script := range out {
		for i := range script {
			script[i].A = r.One(r.Below(5), r.Below(1000), -1, -r.Below(1000), one, one+1, math.MaxInt, math.MinInt)
		}
	}
	return out
}

// any calls of the stack's own, from many VERSIONs on, under many schedules
func TestCalls(t *testing.T) {
	r := trial.Row(1)
	seen := map[api.Errno]int{}
	failed, round := 0, 0
	for range 3000 {
		n := r.Below(5)
		x := past{r.One(0, 77, versions-1, versions-2, versions-3, versions-5), []int{5, -6, math.MinInt, math.MaxInt}[:r.Below(n+1)]}
		told := x.calls(t, r.Schedule(120), n, someScripts(&r, r.One(1, 2, 3, api.MaxThreads), 6, 1, 2))
		failed += told.Count(trial.Fails)
		round += told.Count(func(s api.Step) bool { return s.Cell == room(n).head() && s.Old/one > s.New/one })
		for _, x := range slices.Concat(told.Answers...) {
			seen[x.Code]++
		}
	}
	if min(failed, round, seen[api.OK], seen[api.ErrSlotsFull], seen[api.ErrStackEmpty]) < 500 || len(seen) != 3 {
		t.Errorf("the calls are too tame: %d failed, %d went round, %v", failed, round, seen)
	}
}

// a free thread alone is answered as the steps say
func TestFreely(t *testing.T) {
	r := trial.Row(5)
	for _, n := range []int{-3, 0, 1, 2, 3, 7, api.MaxSlots, api.MaxSlots + 9} {
		for _, id := range []int{0, 1, 255} {
			s, x, many := stack.New(nil, n), turn.Free(id), min(max(n, 0), api.MaxSlots)
			script := slices.Concat(someScripts(&r, 3, 200, 1, 2)...)
			for i := range many + 2 {
				script = append(script, push(i-many/2))
			}
			script = append(script, times(many+2, pop)...)
			for i, want := range room(many).model([][]api.Call{script}).Play(nil).Answers[0] {
				if got := does(s)(x, script[i]); got != want {
					t.Fatalf("room for %d, the call %d of %v: %v, not %v", n, i, script[:i+1], got, want)
				}
			}
		}
	}
}

// P9.2

// the chapter's examples
func TestExamples(t *testing.T) {
	for i, x := range []struct {
		n        int
		schedule []int
		scripts  [][]api.Call
		answers  [][]api.Answer
	}{
		{2, nil, [][]api.Call{{push(7), push(8), push(9), pop, pop, pop}}, [][]api.Answer{{ok, ok, full, fine(8), fine(7), empty}}},
		{0, nil, [][]api.Call{{push(7), pop}}, [][]api.Answer{{full, empty}}},
		{1, append(times(11, 0), 1, 1), [][]api.Call{{push(7), pop}, {pop, push(8)}}, [][]api.Answer{{ok, fine(7)}, {empty, full}}},
	} {
		if told := plays(t, x.schedule, x.n, x.scripts); !trial.Same(told.Answers, x.answers) {
			t.Errorf("%d: %v", i, told)
		}
	}
}

// the chapter's steps
func TestExampleSteps(t *testing.T) {
	const v = 1 << 32
	want := steps(
		trial.Begin(0, 0), load(0, 0, 1), load(0, 1, 0), cas(0, 0, 1, v), store(0, 2, 0, 1), store(0, 4, 0, 7), load(0, 3, 0), store(0, 5, 0, 0), cas(0, 3, 0, v+1), trial.End(0, 0, 0),
		trial.Begin(0, 1), load(0, 3, v+1), load(0, 5, 0), cas(0, 3, v+1, 2*v), load(0, 4, 7), cas(0, 2, 1, 0), load(0, 0, v), store(0, 1, 0, 0), cas(0, 0, v, 2*v+1), trial.End(0, 1, 0))
	for _, schedule := range [][]int{nil, {0}, {-1, 5}, times(40, 3)} {
		if told := plays(t, schedule, 1, [][]api.Call{{push(7), pop}}); !slices.Equal(told.Trace, want) {
			t.Error(schedule, told)
		}
	}
}

// what is pushed is any int
func TestNumbers(t *testing.T) {
	for _, v := range []int{0, 1, -1, 7, -1000, one, -one, versions * one, math.MaxInt, math.MaxInt - 1, math.MinInt, math.MinInt + 1} {
		told := plays(t, nil, 2, [][]api.Call{{push(v), push(^v), pop, pop, pop}})
		if !slices.Equal(told.Answers[0], answers(ok, ok, fine(^v), fine(v), empty)) {
			t.Error(v, told)
		}
	}
}

// many Plays, under many schedules, against the model
func TestPlay(t *testing.T) {
	r := trial.Row(2)
	seen := map[api.Errno]int{}
	failed := 0
	for range 5000 {
		n := r.Below(r.One(2, 3, 6, 20))
		told := plays(t, r.Schedule(150), n, someScripts(&r, r.One(1, 2, 3, api.MaxThreads), 7, 1, 1, 2, 2, r.One(0, 1, 2, 3, -1)))
		failed += trial.Number(told.Count(func(s api.Step) bool { return s.Cell == room(n).head() && trial.Fails(s) }) > 0)
		for _, x := range slices.Concat(told.Answers...) {
			seen[x.Code]++
		}
	}
	if min(failed, seen[api.OK], seen[api.ErrSlotsFull], seen[api.ErrStackEmpty], seen[api.ErrArg]) < 500 || len(seen) != 4 {
		t.Errorf("the Plays are too tame: %d failed, answers %v", failed, seen)
	}
}

// only Op 1 looks at A, nobody at B and C
func TestNotLookedAt(t *testing.T) {
	for _, n := range []int{0, 1, -1, 2, math.MaxInt, math.MinInt} {
		told := plays(t, nil, 1, [][]api.Call{{{Op: 3, A: n, B: n, C: n}, {Op: 2, A: n, B: n, C: n}, {Op: 1, A: 5, B: n, C: n}, {Op: 2, A: n, B: n, C: n}, {Op: 0, A: n, B: n, C: n}}})
		if !slices.Equal(told.Answers[0], answers(arg, empty, ok, fine(5), arg)) {
			t.Error(n, told)
		}
	}
}

// an Op that there is not is told, and the script goes on
func TestNoSuchOp(t *testing.T) {
	for _, op := range trial.Strange(2) {
		no := api.Call{Op: op, A: 7}
		told := plays(t, nil, 1, [][]api.Call{{no, push(8)}, {no}})
		want := steps(trial.Begin(0, 0), trial.End(0, 0, api.ErrArg), trial.Begin(0, 1), trial.Begin(1, 0), trial.End(1, 0, api.ErrArg))
		want = append(append(want, room1.pushes(0, 0, 8, there{free: 1})...), trial.End(0, 1, 0))
		if !slices.Equal(told.Trace, want) || !trial.Same(told.Answers, [][]api.Answer{{arg, ok}, {arg}}) {
			t.Error(op, told)
		}
	}
}

// a schedule may be shorter or longer than what is done, of any numbers
func TestSchedules(t *testing.T) {
	all := [][]api.Call{{push(1), push(2), pop}, {push(3), pop, pop}, {pop, push(4)}}
	for _, schedule := range [][]int{nil, {}, {2}, {-1}, {-1, -2, -3, -4}, {math.MinInt, math.MaxInt}, times(500, -1), times(200, 0, 7, -5)} {
		told := plays(t, schedule, 2, all)
		if again := plays(t, schedule, 2, all); !again.Same(told) {
			t.Error("another time otherwise", schedule, told, again)
		}
	}
}

// at the limits: eight threads, 64 calls each, as much room as there may be, and none
func TestGreatest(t *testing.T) {
	for _, n := range []int{0, 1, 256, api.MaxSlots} {
		for _, script := range [][]api.Call{times(64, push(-5)), times(64, pop), times(32, push(1), pop), append(times(32, push(2)), times(32, pop)...), times(64, api.Call{Op: 3})} {
			for _, schedule := range [][]int{nil, times(1000, 5, 3, -1)} {
				told := plays(t, schedule, n, times(api.MaxThreads, script))
				if all := slices.Concat(told.Answers...); len(all) != api.MaxThreads*api.MaxCalls {
					t.Errorf("%d answers", len(all))
				}
			}
			plays(t, []int{-1, -1, -1, 0}, n, [][]api.Call{script})
		}
	}
}

func TestNoCalls(t *testing.T) {
	told := plays(t, nil, 1, [][]api.Call{nil})
	if len(told.Trace) != 0 || len(told.Answers) != 1 || len(told.Answers[0]) != 0 {
		t.Error(told)
	}
	plays(t, nil, api.MaxSlots, make([][]api.Call, api.MaxThreads))
	plays(t, nil, 0, make([][]api.Call, api.MaxThreads))
	told = plays(t, []int{1}, 1, [][]api.Call{{}, {push(3), pop}, nil})
	if !trial.Same(told.Answers, [][]api.Answer{{}, {ok, fine(3)}, {}}) {
		t.Error(told)
	}
}

// the cells of a world that has others go behind these
func TestCellsBehindOthers(t *testing.T) {
	w := turn.New(nil)
	cell.New(w, 77)
	a, e := stack.Play(w, 1, [][]api.Call{{push(7), pop}})
	want := slices.Concat(room1.pushes(0, 0, 7, there{free: 1}), room1.pops(0, 0, there{free: one, head: one + 1, value: 7}))
	for i := range want {
		want[i].Cell++
	}
	if e != api.OK || !trial.Same(a, [][]api.Answer{{ok, fine(7)}}) || !slices.Equal(trial.Bare(w.Trace()), want) {
		t.Error(a, e, w.Trace())
	}
	if behind := w.Cell(); behind != 7 {
		t.Errorf("it made %d cells", behind-1)
	}
}

func TestRefused(t *testing.T) {
	script := calls(push(7), pop, pop, api.Call{Op: 9})
	for _, n := range []int{0, 1, 2, api.MaxSlots} {
		if err := player(n).Refuses(script); err != nil {
			t.Errorf("%d: %v", n, err)
		}
	}
	for _, n := range []int{-1, api.MaxSlots + 1, -api.MaxSlots, 1 << 32, 1<<32 + 1, math.MaxInt, math.MinInt} {
		for _, some := range [][]api.Call{nil, script} {
			if err := player(n).RefusesAll(some); err != nil {
				t.Errorf("%d: %v", n, err)
			}
		}
	}
}

func TestMemory(t *testing.T) {
	for _, n := range []int{0, 1, 3} {
		for _, script := range [][]api.Call{{push(7), push(8)}, {push(7), pop}, {pop, push(7), pop, {Op: 9}}} {
			if err := player(n).Keeps(script); err != nil {
				t.Errorf("%d of %v: %v", n, script, err)
			}
		}
	}
}
