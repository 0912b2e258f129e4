package slots_test

import (
	"math"
	"slices"
	"testing"

	"butler/api"
	"butler/cell"
	"butler/play"
	"butler/slots"
	"butler/trial"
	"butler/turn"
)

// short names for what nearly every row is made of
func looks(thread, h int) api.Step        { return trial.Step(thread, head, api.StepLoad, h, h) }
func moves(thread, from, to int) api.Step { return trial.Step(thread, head, api.StepCas, from, to) }
func fails(thread, h int) api.Step        { return trial.Step(thread, head, api.StepCas, h, h) }
func reads(thread, i, x int) api.Step     { return trial.Step(thread, next(i), api.StepLoad, x, x) }
func links(thread, i, from, to int) api.Step {
	return trial.Step(thread, next(i), api.StepStore, from, to)
}
func keeps(thread, i int) api.Step { return trial.Step(thread, used(i), api.StepStore, 0, 1) }
func frees(thread, i int) api.Step { return trial.Step(thread, used(i), api.StepCas, 1, 0) }
func vain(thread, i int) api.Step  { return trial.Step(thread, used(i), api.StepCas, 0, 0) }

// takes is all that a Take of i does, alone, where HEAD is h, and x stands behind i.
func takes(thread, i, h, x int) []api.Step {
	return []api.Step{looks(thread, h), reads(thread, i, x), moves(thread, h, one*(h/one+1)+x), keeps(thread, i)}
}

// gives is all that a Give of i does, alone, where HEAD is h, and x stood behind i.
func gives(thread, i, h, x int) []api.Step {
	return []api.Step{frees(thread, i), looks(thread, h), links(thread, i, x, h%one), moves(thread, h, one*(h/one+1)+i+1)}
}

func fine(v int) api.Answer { return api.Answer{Value: v} }

var (
	arg  = api.Answer{Code: api.ErrArg}
	full = api.Answer{Code: api.ErrSlotsFull}
	free = api.Answer{Code: api.ErrSlotsFree}
)

func answers(l ...api.Answer) []api.Answer { return l }

// script makes calls of numbers: Op and A in turns.
func script(l ...int) []api.Call {
	var out []api.Call
	for x := range slices.Chunk(l, 2) {
		out = append(out, api.Call{Op: x[0], A: x[1]})
	}
	return out
}

// ops are calls that need no A.
func ops(l ...int) []api.Call { return trial.Ops(l...) }

// times is a list, so many times one behind the other.
func times[T any](many int, l ...T) []T { return slices.Repeat(l, many) }

// does is one of the slots' own calls: Op 1 Take, 2 Give(A).
func does(s *slots.Slots, t *turn.Thread, c api.Call) api.Answer {
	if c.Op == 1 {
		i, e := s.Take(t)
		return api.Answer{Code: e, Value: i}
	}
	return api.Answer{Code: s.Give(t, c.A)}
}

// player is Play of n slots.
func player(n int) trial.Player {
	return func(w *turn.World, scripts [][]api.Call) ([][]api.Answer, api.Errno) {
		return slots.Play(w, n, scripts)
	}
}

// plays carries a Play out that may not fail, and holds it against the model.
func plays(t *testing.T, schedule []int, n int, scripts [][]api.Call) trial.Told {
	t.Helper()
	got, e := player(n).Tell(schedule, scripts)
	if want := model(n, scripts).Play(schedule); e != api.OK || !got.Same(want) {
		t.Fatalf("%v, %d of %v: error %d,\n%v\nis to be\n%v", schedule, n, scripts, e, got, want)
	}
	return got
}

// calls does so by the slots' own calls, from any VERSION on.
func calls(t *testing.T, schedule []int, n, version int, scripts [][]api.Call) trial.Told {
	t.Helper()
	got, _ := trial.Player(func(w *turn.World, scripts [][]api.Call) ([][]api.Answer, api.Errno) {
		s := slots.Aged(w, n, version)
		return play.Run(w, scripts, func(x *turn.Thread, c api.Call) api.Answer { return does(s, x, c) }), api.OK
	}).Tell(schedule, scripts)
	if want := aged(n, version, scripts).Play(schedule); !got.Same(want) {
		t.Fatalf("%v, %d, %d of %v:\n%v\nis to be\n%v", schedule, n, version, scripts, got, want)
	}
	return got
}

// P8.1

// New makes HEAD, then NEXT and USED of each slot; all of them are free, one behind the other
func TestNew(t *testing.T) {
	for _, x := range []struct{ n, many int }{
		{0, 0}, {1, 1}, {2, 2}, {3, 3}, {64, 64}, {api.MaxSlots - 1, 999}, {api.MaxSlots, 1000},
		{-1, 0}, {-api.MaxSlots, 0}, {math.MinInt, 0}, {api.MaxSlots + 1, 1000}, {1 << 32, 1000}, {math.MaxInt, 1000},
	} {
		for _, ahead := range []int{0, 1, 4} {
			w := turn.New(nil)
			for range ahead {
				cell.New(w, 9)
			}
			s := slots.New(w, x.n)
			if behind := w.Cell(); behind != ahead+2*x.many+1 {
				t.Errorf("%d slots behind %d cells take %d", x.n, ahead, behind-ahead)
			}
			var want []api.Step
			var told []api.Answer
			for i := range x.many {
				h, behind := one*i+i+1, i+2
				if i == x.many-1 {
					behind = 0
				}
				want = append(want, takes(0, i, h, behind)...)
				told = append(told, fine(i))
			}
			want, told = append(want, looks(0, one*x.many)), append(told, full)
			for i := range want {
				want[i].Cell += ahead
			}
			got := trial.Calls(w, [][]api.Call{times(x.many+1, ops(1)...)}, func(th *turn.Thread, c api.Call) api.Answer { return does(s, th, c) })
			if !slices.Equal(w.Trace(), want) || !slices.Equal(got[0], told) {
				t.Errorf("%d slots behind %d cells: %v, %v", x.n, ahead, got, w.Trace())
			}
		}
	}
}

// the slots of a world know nothing of each other
func TestTwo(t *testing.T) {
	w := turn.New(nil)
	a, b := slots.New(w, 2), slots.New(w, 1)
	var got []api.Answer
	w.Run([]func(*turn.Thread){func(x *turn.Thread) {
		for _, c := range script(1, 0, 1, 0, 2, 0) {
			got = append(got, does(a, x, c), does(b, x, c))
		}
	}})
	if !slices.Equal(got, answers(fine(0), fine(0), fine(1), full, fine(0), fine(0))) {
		t.Error(got)
	}
}

// by hand: what one thread does alone, from any VERSION on
func TestAlone(t *testing.T) {
	const last = one * (versions - 1) // what is highest, with no slot
	for i, x := range []struct {
		n, version int
		calls      []api.Call
		want       []api.Step
		answers    []api.Answer
	}{
		{3, 0, script(1, 0, 2, 0), slices.Concat(takes(0, 0, 1, 2), gives(0, 0, one+2, 2)), answers(fine(0), fine(0))},
		{1, 0, script(1, 0, 1, 0), append(takes(0, 0, 1, 0), looks(0, one)), answers(fine(0), full)},
		{1, 0, script(1, 0, 1, 0, 2, 0, 1, 0), slices.Concat(takes(0, 0, 1, 0), []api.Step{looks(0, one)}, gives(0, 0, one, 0), takes(0, 0, 2*one+1, 0)),
			answers(fine(0), full, fine(0), fine(0))},
		{0, 0, script(1, 0, 1, 0, 2, 0), []api.Step{looks(0, 0), looks(0, 0)}, answers(full, full, arg)},
		{3, 0, script(2, 0, 2, 2, 2, 3, 2, -1), []api.Step{vain(0, 0), vain(0, 2)}, answers(free, free, arg, arg)},
		{2, 0, script(1, 0, 2, 0, 2, 0, 2, 1), slices.Concat(takes(0, 0, 1, 2), gives(0, 0, one+2, 2), []api.Step{vain(0, 0), vain(0, 1)}), answers(fine(0), fine(0), free, free)},
		{2, 0, script(1, 0, 1, 0, 2, 0, 2, 1, 1, 0, 1, 0), slices.Concat(
			takes(0, 0, 1, 2), takes(0, 1, one+2, 0), gives(0, 0, 2*one, 2), gives(0, 1, 3*one+1, 0), takes(0, 1, 4*one+2, 1), takes(0, 0, 5*one+1, 0)),
			answers(fine(0), fine(1), fine(0), fine(0), fine(1), fine(0))},
		{1, versions - 1, script(1, 0), []api.Step{looks(0, last+1), reads(0, 0, 0), moves(0, last+1, 0), keeps(0, 0)}, answers(fine(0))},
		{3, versions - 1, script(1, 0, 2, 0), append([]api.Step{looks(0, last+1), reads(0, 0, 2), moves(0, last+1, 2), keeps(0, 0)}, gives(0, 0, 2, 2)...),
			answers(fine(0), fine(0))},
		{2, versions - 2, script(1, 0, 2, 0, 1, 0), append(append(takes(0, 0, last-one+1, 2), frees(0, 0), looks(0, last+2), links(0, 0, 2, 2), moves(0, last+2, 1)), takes(0, 0, 1, 2)...),
			answers(fine(0), fine(0), fine(0))},
		{0, versions - 1, script(1, 0), []api.Step{looks(0, last)}, answers(full)},
	} {
		w := turn.New(nil)
		s := slots.Aged(w, x.n, x.version)
		got := trial.Calls(w, [][]api.Call{x.calls}, func(th *turn.Thread, c api.Call) api.Answer { return does(s, th, c) })
		if !slices.Equal(w.Trace(), x.want) || !slices.Equal(got[0], x.answers) {
			t.Errorf("%d: %v\n%v\nis to be\n%v", i, got, w.Trace(), x.want)
		}
	}
}

// by hand: threads that come at one time
func TestTogether(t *testing.T) {
	for _, x := range []struct {
		name     string
		n        int
		schedule []int
		scripts  [][]api.Call
		want     []api.Step
		answers  [][]api.Answer
	}{
		{"two Takes, of which one is too late", 2, []int{0, 0, 1, 1, 1}, [][]api.Call{ops(1), ops(1)},
			[]api.Step{looks(0, 1), reads(0, 0, 2), looks(1, 1), reads(1, 0, 2), moves(1, 1, one+2), fails(0, one+2), keeps(1, 0),
				looks(0, one+2), reads(0, 1, 0), moves(0, one+2, 2*one), keeps(0, 1)},
			[][]api.Answer{{fine(1)}, {fine(0)}}},
		{"two Takes of the last one", 1, []int{0, 0, 1, 1, 1, 1}, [][]api.Call{ops(1), ops(1)},
			[]api.Step{looks(0, 1), reads(0, 0, 0), looks(1, 1), reads(1, 0, 0), moves(1, 1, one), keeps(1, 0), fails(0, one), looks(0, one)},
			[][]api.Answer{{full}, {fine(0)}}},
		{"a Take, and a slot that is first again behind its look", 3, append(times(2, 0), append(times(12, 1), 0)...), [][]api.Call{ops(1), script(1, 0, 1, 0, 2, 0)},
			slices.Concat([]api.Step{looks(0, 1), reads(0, 0, 2)}, takes(1, 0, 1, 2), takes(1, 1, one+2, 3), gives(1, 0, 2*one+3, 2),
				[]api.Step{fails(0, 3*one+1)}, takes(0, 0, 3*one+1, 3)),
			[][]api.Answer{{fine(0)}, {fine(0), fine(1), fine(0)}}},
		{"a Take, and a slot that is first again, with the same one behind it", 2, append(times(2, 0), append(times(8, 1), 0)...), [][]api.Call{ops(1), script(1, 0, 2, 0)},
			slices.Concat([]api.Step{looks(0, 1), reads(0, 0, 2)}, takes(1, 0, 1, 2), gives(1, 0, one+2, 2), []api.Step{fails(0, 2*one+1)}, takes(0, 0, 2*one+1, 2)),
			[][]api.Answer{{fine(0)}, {fine(0), fine(0)}}},
		{"a Give, and a slot that is first again behind its look", 2, append(times(7, 0), append(times(8, 1), 0)...), [][]api.Call{script(1, 0, 2, 0), script(1, 0, 2, 1)},
			slices.Concat(takes(0, 0, 1, 2), []api.Step{frees(0, 0), looks(0, one+2), links(0, 0, 2, 2)}, takes(1, 1, one+2, 0), gives(1, 1, 2*one, 0),
				[]api.Step{fails(0, 3*one+2), looks(0, 3*one+2), links(0, 0, 2, 2), moves(0, 3*one+2, 4*one+1)}),
			[][]api.Answer{{fine(0), fine(0)}, {fine(1), fine(0)}}},
		{"a Give that is too late, and links to another one", 2, append(times(7, 0), append(times(4, 1), 0)...), [][]api.Call{script(1, 0, 2, 0), ops(1)},
			slices.Concat(takes(0, 0, 1, 2), []api.Step{frees(0, 0), looks(0, one+2), links(0, 0, 2, 2)}, takes(1, 1, one+2, 0),
				[]api.Step{fails(0, 2*one), looks(0, 2*one), links(0, 0, 2, 0), moves(0, 2*one, 3*one+1)}),
			[][]api.Answer{{fine(0), fine(0)}, {fine(1)}}},
		{"a Give between a Take's change of HEAD and its Store", 1, []int{0, 0, 0, 1}, [][]api.Call{ops(1), script(2, 0)},
			[]api.Step{looks(0, 1), reads(0, 0, 0), moves(0, 1, one), vain(1, 0), keeps(0, 0)},
			[][]api.Answer{{fine(0)}, {free}}},
		{"a Give right behind that Store", 1, []int{0, 0, 0, 0, 1}, [][]api.Call{ops(1), script(2, 0)},
			slices.Concat(takes(0, 0, 1, 0), gives(1, 0, one, 0)),
			[][]api.Answer{{fine(0)}, {fine(0)}}},
		{"two Gives of one slot", 1, []int{0, 0, 0, 0, 0, 1}, [][]api.Call{script(1, 0, 2, 0), script(2, 0)},
			slices.Concat(takes(0, 0, 1, 0), []api.Step{frees(0, 0), vain(1, 0), looks(0, one), links(0, 0, 0, 0), moves(0, one, 2*one+1)}),
			[][]api.Answer{{fine(0), fine(0)}, {free}}},
		{"a Take while the only slot is being given", 1, []int{0, 0, 0, 0, 0, 0, 0, 1}, [][]api.Call{script(1, 0, 2, 0), ops(1, 1)},
			slices.Concat(takes(0, 0, 1, 0), []api.Step{frees(0, 0), looks(0, one), links(0, 0, 0, 0), looks(1, one), moves(0, one, 2*one+1)}, takes(1, 0, 2*one+1, 0)),
			[][]api.Answer{{fine(0), fine(0)}, {full, fine(0)}}},
	} {
		w := turn.New(x.schedule)
		s := slots.New(w, x.n)
		got := trial.Calls(w, x.scripts, func(th *turn.Thread, c api.Call) api.Answer { return does(s, th, c) })
		if !slices.Equal(w.Trace(), x.want) || !trial.Same(got, x.answers) {
			t.Errorf("%s: %v\n%v\nis to be\n%v", x.name, got, w.Trace(), x.want)
		}
	}
}

// any calls of the slots' own, from many VERSIONs on, under many schedules
func TestCalls(t *testing.T) {
	r := trial.Row(1)
	seen := map[api.Errno]int{}
	failed, round := 0, 0
	for range 3000 {
		n := r.Below(5)
		scripts := r.Scripts(r.One(1, 2, 3, api.MaxThreads), 6, 1, 1, 2)
		version := r.One(0, 1, 77, versions/2, versions-1, versions-2, versions-5)
		told := calls(t, r.Schedule(80), n, version, scripts)
		failed += told.Count(trial.Fails)
		round += told.Count(func(s api.Step) bool { return s.Cell == head && s.Old/one > s.New/one })
		for _, x := range slices.Concat(told.Answers...) {
			seen[x.Code]++
		}
	}
	if min(failed, round, seen[api.OK], seen[api.ErrSlotsFull], seen[api.ErrSlotsFree], seen[api.ErrArg]) < 500 {
		t.Errorf("the calls are too tame: %d failed, %d went round, %v", failed, round, seen)
	}
}

// no slot, no step
func TestNoSuchSlot(t *testing.T) {
	for _, n := range []int{0, 1, 3, api.MaxSlots} {
		for _, i := range []int{-1, -n - 1, n, n + 1, api.MaxSlots, 1 << 32, -1 << 32, 1<<32 + n, math.MaxInt, math.MinInt, math.MinInt + 1} {
			told := calls(t, nil, n, 0, [][]api.Call{{{Op: 2, A: i}}})
			if !slices.Equal(told.Answers[0], answers(arg)) || len(trial.Bare(told.Trace)) != 0 {
				t.Errorf("%d of %d: %v", i, n, told)
			}
		}
	}
}

// a free thread alone is answered as the steps say
func TestFreely(t *testing.T) {
	r := trial.Row(5)
	for _, n := range []int{-3, 0, 1, 2, 3, 7, api.MaxSlots, api.MaxSlots + 9} {
		for _, id := range []int{0, 1, 255} {
			s, x, many := slots.New(nil, n), turn.Free(id), min(max(n, 0), api.MaxSlots)
			var calls []api.Call
			for range 400 {
				calls = append(calls, api.Call{Op: r.One(1, 1, 2), A: r.Below(2+min(many, 200)) - 1})
			}
			calls = append(calls, times(many+2, ops(1)...)...)
			for i, want := range model(many, [][]api.Call{calls}).Play(nil).Answers[0] {
				if got := does(s, x, calls[i]); got != want {
					t.Fatalf("%d slots, the call %d of %v: %v, not %v", n, i, calls[:i+1], got, want)
				}
			}
		}
	}
}

// P8.2

// the chapter's examples
func TestExamples(t *testing.T) {
	begins, ends := trial.Begin, trial.End
	for i, x := range []struct {
		n       int
		calls   []api.Call
		answers []api.Answer
		want    []api.Step
	}{
		{3, ops(1, 3), answers(fine(0), fine(0)), slices.Concat(
			[]api.Step{begins(0, 0), looks(0, 1), reads(0, 0, 2), moves(0, 1, 1<<32+2), keeps(0, 0), ends(0, 0, 0)},
			[]api.Step{begins(0, 1), frees(0, 0), looks(0, 1<<32+2), links(0, 0, 2, 2), moves(0, 1<<32+2, 2<<32+1), ends(0, 1, 0)})},
		{1, ops(1, 1), answers(fine(0), full), []api.Step{
			begins(0, 0), looks(0, 1), reads(0, 0, 0), moves(0, 1, 1<<32), keeps(0, 0), ends(0, 0, 0), begins(0, 1), looks(0, 1<<32), ends(0, 1, 80)}},
		{0, ops(1), answers(full), []api.Step{begins(0, 0), looks(0, 0), ends(0, 0, 80)}},
		{3, script(2, 5, 2, 0, 3, 0), answers(arg, free, arg), []api.Step{
			begins(0, 0), ends(0, 0, 1), begins(0, 1), vain(0, 0), ends(0, 1, 81), begins(0, 2), ends(0, 2, 1)}},
	} {
		if told := plays(t, nil, x.n, [][]api.Call{x.calls}); !slices.Equal(told.Answers[0], x.answers) || !slices.Equal(told.Trace, x.want) {
			t.Errorf("%d: %v", i, told)
		}
	}
}

// by hand: what Op 3 gives
func TestBack(t *testing.T) {
	for _, x := range []struct {
		name     string
		n        int
		schedule []int
		scripts  [][]api.Call
		answers  [][]api.Answer
	}{
		{"the last one first", 3, nil, [][]api.Call{ops(1, 1, 1, 3, 3, 3, 3)},
			[][]api.Answer{{fine(0), fine(1), fine(2), fine(2), fine(1), fine(0), arg}}},
		{"a Take between", 3, nil, [][]api.Call{ops(1, 1, 3, 1, 3, 3, 3)},
			[][]api.Answer{{fine(0), fine(1), fine(1), fine(1), fine(1), fine(0), arg}}},
		{"none yet", 3, nil, [][]api.Call{ops(3, 1, 3, 3)},
			[][]api.Answer{{arg, fine(0), fine(0), arg}}},
		{"a Take that got none counts for nothing", 1, nil, [][]api.Call{ops(1, 1, 3, 3)},
			[][]api.Answer{{fine(0), full, fine(0), arg}}},
		{"Op 2 gave it before", 2, nil, [][]api.Call{script(1, 0, 1, 0, 2, 1, 3, 0, 3, 0, 3, 0)},
			[][]api.Answer{{fine(0), fine(1), fine(0), free, fine(0), arg}}},
		{"Op 2 gave an earlier one", 2, nil, [][]api.Call{script(1, 0, 1, 0, 2, 0, 3, 0, 3, 0, 3, 0)},
			[][]api.Answer{{fine(0), fine(1), fine(0), fine(1), free, arg}}},
		{"it was taken twice", 1, nil, [][]api.Call{script(1, 0, 2, 0, 1, 0, 3, 0, 3, 0, 3, 0)},
			[][]api.Answer{{fine(0), fine(0), fine(0), fine(0), free, arg}}},
		{"another thread took it", 1, times(4, 0), [][]api.Call{ops(1), ops(3)},
			[][]api.Answer{{fine(0)}, {arg}}},
		{"another thread gave it", 2, append(times(8, 0), times(9, 1)...), [][]api.Call{ops(1, 1, 3, 3), script(2, 1, 2, 1, 3, 0)},
			[][]api.Answer{{fine(0), fine(1), free, fine(0)}, {fine(0), free, arg}}},
		{"another thread gave it, and has it now", 1, append(times(4, 0), times(8, 1)...), [][]api.Call{ops(1, 3, 3), script(2, 0, 1, 0, 3, 0, 3, 0)},
			[][]api.Answer{{fine(0), fine(0), arg}, {fine(0), fine(0), free, arg}}},
	} {
		if told := plays(t, x.schedule, x.n, x.scripts); !trial.Same(told.Answers, x.answers) {
			t.Errorf("%s: %v", x.name, told)
		}
	}
}

// someScripts are of all Ops, with all kinds of slots.
func someScripts(r *trial.Row, threads, most, n int) [][]api.Call {
	out := r.Scripts(threads, most, 1, 1, 1, 2, 3, r.One(0, 1, 2, 3, 4, -1))
	for _, calls := range out {
		for i := range calls {
			calls[i].A = r.One(r.Below(n+1), r.Below(n+1), r.Below(n+1), -1, n+1, math.MaxInt, math.MinInt)
		}
	}
	return out
}

// many Plays, under many schedules, against the model
func TestPlay(t *testing.T) {
	r := trial.Row(2)
	seen, gave := map[api.Errno]int{}, map[api.Errno]int{}
	failed := 0
	for range 5000 {
		n := r.Below(r.One(2, 3, 6, 20))
		scripts := someScripts(&r, r.One(1, 2, 3, api.MaxThreads), 7, n)
		told := plays(t, r.Schedule(100), n, scripts)
		failed += trial.Number(told.Count(func(s api.Step) bool { return s.Cell == head && trial.Fails(s) }) > 0)
		calls := slices.Concat(scripts...)
		for i, x := range slices.Concat(told.Answers...) {
			seen[x.Code]++
			if calls[i].Op == 3 {
				gave[x.Code]++
			}
		}
	}
	if min(failed, seen[api.OK], seen[api.ErrSlotsFull], seen[api.ErrSlotsFree], seen[api.ErrArg], gave[api.OK], gave[api.ErrArg]) < 500 || gave[api.ErrSlotsFree] < 50 || len(seen) != 4 {
		t.Errorf("the Plays are too tame: %d failed, answers %v, of Op 3 %v", failed, seen, gave)
	}
}

// only Op 2 looks at A, nobody at B and C
func TestNotLookedAt(t *testing.T) {
	for _, n := range []int{0, 1, -1, 2, math.MaxInt, math.MinInt} {
		told := plays(t, nil, 2, [][]api.Call{{{Op: 4, A: n, B: n, C: n}, {Op: 1, A: n, B: n, C: n}, {Op: 1, A: n, B: n, C: n}, {Op: 3, A: n, B: n, C: n}, {Op: 2, B: n, C: n}, {Op: 0, A: n, B: n, C: n}}})
		if !slices.Equal(told.Answers[0], answers(arg, fine(0), fine(1), fine(1), fine(0), arg)) {
			t.Error(n, told)
		}
	}
}

// an Op that there is not is told, and the script goes on
func TestNoSuchOp(t *testing.T) {
	for _, op := range trial.Strange(3) {
		told := plays(t, nil, 1, [][]api.Call{ops(op, 1), ops(op)})
		want := []api.Step{trial.Begin(0, 0), trial.End(0, 0, api.ErrArg), trial.Begin(0, 1), trial.Begin(1, 0), trial.End(1, 0, api.ErrArg)}
		want = append(append(want, takes(0, 0, 1, 0)...), trial.End(0, 1, 0))
		if !slices.Equal(told.Trace, want) || !trial.Same(told.Answers, [][]api.Answer{{arg, fine(0)}, {arg}}) {
			t.Error(op, told)
		}
	}
}

// a schedule may be shorter or longer than what is done, of any numbers
func TestSchedules(t *testing.T) {
	all := [][]api.Call{ops(1, 1, 3), script(1, 0, 2, 0), ops(1, 3, 3)}
	for _, schedule := range [][]int{nil, {}, {2}, {-1}, {-1, -2, -3, -4}, {math.MinInt, math.MaxInt}, times(500, -1), times(200, 0, 7, -5)} {
		told := plays(t, schedule, 2, all)
		if again := plays(t, schedule, 2, all); !again.Same(told) {
			t.Error("another time otherwise", schedule, told, again)
		}
	}
}

// at the limits: eight threads, 64 calls each, as many slots as there may be, and none
func TestGreatest(t *testing.T) {
	for _, n := range []int{0, 1, 512, api.MaxSlots} {
		for _, calls := range [][]api.Call{times(64, ops(1)...), times(32, ops(1, 3)...), append(times(32, ops(1)...), times(32, ops(3)...)...), times(64, ops(4)...)} {
			for _, schedule := range [][]int{nil, times(1000, 5, 3, -1)} {
				told := plays(t, schedule, n, times(api.MaxThreads, calls))
				if all := slices.Concat(told.Answers...); len(all) != api.MaxThreads*api.MaxCalls {
					t.Errorf("%d answers", len(all))
				}
			}
			plays(t, []int{-1, -1, -1, 0}, n, [][]api.Call{calls})
		}
	}
}

// of more slots than there are calls the last one is the last that comes
func TestMany(t *testing.T) {
	told := plays(t, nil, 512, times(api.MaxThreads, times(api.MaxCalls, ops(1)...)))
	var got []int
	for _, x := range slices.Concat(told.Answers...) {
		got = append(got, x.Value)
	}
	slices.Sort(got)
	for i, x := range got {
		if i != x {
			t.Fatal(got)
		}
	}
	told = plays(t, nil, api.MaxSlots, [][]api.Call{script(2, api.MaxSlots-1, 2, api.MaxSlots, 1, 0)})
	if !slices.Equal(told.Answers[0], answers(free, arg, fine(0))) {
		t.Error(told)
	}
}

func TestNoCalls(t *testing.T) {
	told := plays(t, nil, 1, [][]api.Call{nil})
	if len(told.Trace) != 0 || len(told.Answers) != 1 || len(told.Answers[0]) != 0 {
		t.Error(told)
	}
	plays(t, nil, api.MaxSlots, make([][]api.Call, api.MaxThreads))
	plays(t, nil, 0, make([][]api.Call, api.MaxThreads))
	told = plays(t, []int{1}, 1, [][]api.Call{{}, ops(1, 3), nil})
	if !trial.Same(told.Answers, [][]api.Answer{{}, {fine(0), fine(0)}, {}}) {
		t.Error(told)
	}
}

// the cells of a world that has others go behind these
func TestCellsBehindOthers(t *testing.T) {
	w := turn.New(nil)
	cell.New(w, 77)
	a, e := slots.Play(w, 2, [][]api.Call{ops(1, 1, 3)})
	want := slices.Concat(takes(0, 0, 1, 2), takes(0, 1, one+2, 0), gives(0, 1, 2*one, 0))
	for i := range want {
		want[i].Cell++
	}
	if e != api.OK || !trial.Same(a, [][]api.Answer{trial.Values(0, 1, 1)}) || !slices.Equal(trial.Bare(w.Trace()), want) {
		t.Error(a, e, w.Trace())
	}
	if behind := w.Cell(); behind != 6 {
		t.Errorf("it made %d cells", behind-1)
	}
}

func TestRefused(t *testing.T) {
	calls := script(1, 0, 2, 0, 3, 0, 9, 0)
	for _, n := range []int{0, 1, 2, api.MaxSlots} {
		if err := player(n).Refuses(calls); err != nil {
			t.Errorf("%d: %v", n, err)
		}
	}
	for _, n := range []int{-1, api.MaxSlots + 1, -api.MaxSlots, 1 << 32, 1<<32 + 1, math.MaxInt, math.MinInt} {
		for _, some := range [][]api.Call{nil, calls} {
			if err := player(n).RefusesAll(some); err != nil {
				t.Errorf("%d: %v", n, err)
			}
		}
	}
}

func TestMemory(t *testing.T) {
	for _, n := range []int{0, 1, 3} {
		for _, calls := range [][]api.Call{ops(1, 1), ops(1, 3), script(1, 0, 2, 0, 3, 0, 9, 0)} {
			if err := player(n).Keeps(calls); err != nil {
				t.Errorf("%d of %v: %v", n, calls, err)
			}
		}
	}
}
