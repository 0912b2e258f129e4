package once_test

import (
	"math"
	"slices"
	"testing"

	"butler/api"
	"butler/cell"
	"butler/once"
	"butler/play"
	"butler/trial"
	"butler/turn"
)

// short names for what nearly every row is made of, of a once whose WORD is the cell 0
func load(thread, v int) api.Step  { return trial.Step(thread, 0, api.StepLoad, v, v) }
func takes(thread int) api.Step    { return trial.Step(thread, 0, api.StepCas, 0, going(thread)) }
func fails(thread, v int) api.Step { return trial.Step(thread, 0, api.StepCas, v, v) }
func gives(thread, v int) api.Step { return trial.Step(thread, 1, api.StepStore, 0, v) }
func reads(thread, v int) api.Step { return trial.Step(thread, 1, api.StepLoad, v, v) }
func wakes(thread int) api.Step    { return trial.Step(thread, 0, api.StepWake, 0, 0) }
func keeps(thread int, code api.Errno) api.Step {
	return trial.Step(thread, 0, api.StepStore, going(thread), done(code))
}

// first is all that who comes first does, alone, with an act that comes to that.
func first(thread int, x api.Answer) []api.Step {
	return []api.Step{load(thread, 0), takes(thread), gives(thread, x.Value), keeps(thread, x.Code)}
}

// later is all that who comes later does.
func later(thread int, x api.Answer) []api.Step {
	return []api.Step{load(thread, done(x.Code)), reads(thread, x.Value)}
}

func answer(code api.Errno, v int) api.Answer { return api.Answer{Code: code, Value: v} }
func fine(v int) api.Answer                   { return answer(api.OK, v) }
func failed(v int) api.Answer                 { return answer(api.ErrOnceFail, v) }
func panicked(v int) api.Answer               { return answer(api.ErrOncePanic, v) }

var (
	itself = failed(int(api.ErrOnceAgain))
	arg    = answer(api.ErrArg, 0)
	stuck  = answer(api.ErrStuck, 0)
)

func answers(l ...api.Answer) []api.Answer { return l }

// script makes calls of numbers: Op, A and B in turns.
func script(l ...int) []api.Call {
	var out []api.Call
	for x := range slices.Chunk(l, 3) {
		out = append(out, api.Call{Op: x[0], A: x[1], B: x[2]})
	}
	return out
}

// acts makes calls of numbers: an act's Kind and its Value in turns.
func acts(l ...int) []api.Call {
	var out []api.Call
	for x := range slices.Chunk(l, 2) {
		out = append(out, api.Call{Op: x[0], B: x[1]})
	}
	return out
}

// does is the Do of such a call.
func does(o *once.Once, t *turn.Thread, c api.Call) api.Answer {
	return o.Do(t, api.Act{Kind: c.Op, Value: c.B})
}

// player is Play of so many onces.
func player(many int) trial.Player {
	return func(w *turn.World, scripts [][]api.Call) ([][]api.Answer, api.Errno) {
		return once.Play(w, many, scripts)
	}
}

// plays carries a Play out that may not fail, and holds it against the model.
func plays(t *testing.T, schedule []int, many int, scripts [][]api.Call) trial.Told {
	t.Helper()
	got, e := player(many).Tell(schedule, scripts)
	if want := model(many, scripts).Play(schedule); e != api.OK || !got.Same(want) {
		t.Fatalf("%v, %d of %v: error %d,\n%v\nis to be\n%v", schedule, many, scripts, e, got, want)
	}
	return got
}

// calls does so by the once's own calls, which know more acts than a Play does.
func calls(t *testing.T, schedule []int, scripts [][]api.Call) trial.Told {
	t.Helper()
	got, _ := trial.Player(func(w *turn.World, scripts [][]api.Call) ([][]api.Answer, api.Errno) {
		o := once.New(w)
		return play.Run(w, scripts, func(x *turn.Thread, c api.Call) api.Answer { return does(o, x, c) }), api.OK
	}).Tell(schedule, scripts)
	if want := modelOfCalls(scripts).Play(schedule); !got.Same(want) {
		t.Fatalf("%v of %v:\n%v\nis to be\n%v", schedule, scripts, got, want)
	}
	return got
}

// P7.1

// New makes two cells, first WORD, then VALUE, in which 0 stands
func TestNew(t *testing.T) {
	for _, ahead := range []int{0, 1, 4} {
		w := turn.New(nil)
		for range ahead {
			cell.New(w, 9)
		}
		o := once.New(w)
		if behind := w.Cell(); behind != ahead+2 {
			t.Errorf("behind %d cells a once takes %d", ahead, behind-ahead)
		}
		got := trial.Calls(w, [][]api.Call{acts(0, 5, 1, 6)}, func(x *turn.Thread, c api.Call) api.Answer { return does(o, x, c) })
		want := append(first(0, fine(5)), later(0, fine(5))...)
		for i := range want {
			want[i].Cell += ahead
		}
		if !slices.Equal(w.Trace(), want) || !trial.Same(got, [][]api.Answer{{fine(5), fine(5)}}) {
			t.Errorf("behind %d cells: %v, %v", ahead, w.Trace(), got)
		}
	}
}

// two onces of a world know nothing of each other
func TestTwoOnces(t *testing.T) {
	w := turn.New(nil)
	a, b := once.New(w), once.New(w)
	var got []api.Answer
	w.Run([]func(*turn.Thread){func(x *turn.Thread) {
		for _, c := range acts(1, 5, 2, 6) {
			got = append(got, does(a, x, c), does(b, x, api.Call{Op: 0, B: c.B + 10}), does(a, x, c), does(b, x, c))
		}
	}})
	if half := answers(failed(5), fine(15), failed(5), fine(15)); !slices.Equal(got, append(half, half...)) {
		t.Error(got)
	}
}

// by hand: what each act comes to, for who carries it out and who comes later
func TestActs(t *testing.T) {
	for _, v := range []int{0, 1, -1, 7, 72, 1 << 20, 1 << 32, math.MaxInt, math.MinInt} {
		for _, x := range []struct {
			kind  int
			comes api.Answer
		}{
			{0, fine(v)}, {1, failed(v)}, {2, panicked(v)}, {3, itself},
			{4, arg}, {5, arg}, {-1, arg}, {-3, arg}, {1 << 8, arg}, {1<<32 + 1, arg}, {1<<32 + 3, arg}, {math.MaxInt, arg}, {math.MinInt, arg}, {math.MinInt + 2, arg},
		} {
			for _, who := range []int{0, 3, 7} {
				w := turn.New(nil)
				o := once.New(w)
				scripts := make([][]api.Call, api.MaxThreads)
				scripts[who] = acts(x.kind, v, 0, 99, 2, 98, 3, 97, 4, 96)
				got := trial.Calls(w, scripts, func(th *turn.Thread, c api.Call) api.Answer { return does(o, th, c) })
				want := first(who, x.comes)
				if x.kind == 3 {
					want = slices.Insert(want, 2, load(who, going(who)))
				}
				for range 4 {
					want = append(want, later(who, x.comes)...)
				}
				if !slices.Equal(w.Trace(), want) || !slices.Equal(got[who], slices.Repeat(answers(x.comes), 5)) {
					t.Errorf("the Kind %d with %d, by %d: %v, %v", x.kind, v, who, got[who], w.Trace())
				}
			}
		}
	}
}

// by hand: threads that come at one time
func TestCalls(t *testing.T) {
	one, over := going(1), done(api.OK)
	for _, x := range []struct {
		name     string
		schedule []int
		scripts  [][]api.Call
		want     []api.Step
		answers  [][]api.Answer
	}{
		{"a call behind the end of another one", []int{0, 0, 0, 0}, [][]api.Call{acts(0, 7), acts(1, 8)},
			append(first(0, fine(7)), later(1, fine(7))...), [][]api.Answer{{fine(7)}, {fine(7)}}},
		{"a call behind the end of another one, by a lower number", []int{1, 1, 1, 1}, [][]api.Call{acts(0, 7), acts(1, 8)},
			append(first(1, failed(8)), later(0, failed(8))...), [][]api.Answer{{failed(8)}, {failed(8)}}},
		{"a Cas behind the other's Cas, and a wait", []int{0, 1, 1, 0, 0, 0, 0}, [][]api.Call{acts(0, 7), acts(0, 8)},
			[]api.Step{load(0, 0), load(1, 0), takes(1), fails(0, one), load(0, one), gives(1, 8), keeps(1, 0), wakes(0), load(0, over), reads(0, 8)},
			[][]api.Answer{{fine(8)}, {fine(8)}}},
		{"a Cas behind the other's end", []int{0, 1, 1, 1, 1}, [][]api.Call{acts(0, 7), acts(0, 8)},
			[]api.Step{load(0, 0), load(1, 0), takes(1), gives(1, 8), keeps(1, 0), fails(0, over), load(0, over), reads(0, 8)},
			[][]api.Answer{{fine(8)}, {fine(8)}}},
		{"a Cas that failed, and no wait", []int{0, 1, 1, 1, 0, 1, 0}, [][]api.Call{acts(0, 7), acts(0, 8)},
			[]api.Step{load(0, 0), load(1, 0), takes(1), gives(1, 8), fails(0, one), keeps(1, 0), load(0, over), reads(0, 8)},
			[][]api.Answer{{fine(8)}, {fine(8)}}},
		{"one who comes while it goes on", []int{1, 1, 0, 0, 0}, [][]api.Call{acts(0, 7), acts(2, 8)},
			[]api.Step{load(1, 0), takes(1), load(0, one), gives(1, 8), keeps(1, api.ErrOncePanic), wakes(0), load(0, done(api.ErrOncePanic)), reads(0, 8)},
			[][]api.Answer{{panicked(8)}, {panicked(8)}}},
		{"one who comes when the value is known and the word is not", []int{1, 1, 1, 0, 0}, [][]api.Call{acts(0, 7), acts(0, 8)},
			[]api.Step{load(1, 0), takes(1), gives(1, 8), load(0, one), keeps(1, 0), wakes(0), load(0, over), reads(0, 8)},
			[][]api.Answer{{fine(8)}, {fine(8)}}},
		{"one who wakes late", []int{1, 1, 0, 0, 0, 1, 1, 0, 0}, [][]api.Call{acts(0, 7), acts(0, 8, 0, 9)},
			[]api.Step{load(1, 0), takes(1), load(0, one), gives(1, 8), keeps(1, 0), load(1, over), reads(1, 8), wakes(0), load(0, over), reads(0, 8)},
			[][]api.Answer{{fine(8)}, {fine(8), fine(8)}}},
		{"one who asks itself, while others wait", []int{1, 1, 0, 0, 0}, [][]api.Call{acts(0, 7), acts(3, 8), acts(3, 9)},
			[]api.Step{load(1, 0), takes(1), load(0, one), load(1, one), gives(1, 72), load(2, one), keeps(1, api.ErrOnceFail),
				wakes(2), wakes(0), load(2, done(api.ErrOnceFail)), load(0, done(api.ErrOnceFail)), reads(2, 72), reads(0, 72)},
			[][]api.Answer{{itself}, {itself}, {itself}}},
		{"an act of no kind, while another waits", []int{1, 1, 0, 0, 0}, [][]api.Call{acts(0, 7), acts(9, 8)},
			[]api.Step{load(1, 0), takes(1), load(0, one), gives(1, 0), keeps(1, api.ErrArg), wakes(0), load(0, done(api.ErrArg)), reads(0, 0)},
			[][]api.Answer{{arg}, {arg}}},
		{"three at one time", []int{0, 1, 2, 2, 1, 0, 1, 0}, [][]api.Call{acts(0, 7), acts(0, 8), acts(0, 9)},
			[]api.Step{load(0, 0), load(1, 0), load(2, 0), takes(2), fails(1, going(2)), fails(0, going(2)), load(1, going(2)), load(0, going(2)), gives(2, 9), keeps(2, 0),
				wakes(0), wakes(1), load(0, over), load(1, over), reads(0, 9), reads(1, 9)},
			[][]api.Answer{{fine(9)}, {fine(9)}, {fine(9)}}},
	} {
		w := turn.New(x.schedule)
		o := once.New(w)
		got := trial.Calls(w, x.scripts, func(th *turn.Thread, c api.Call) api.Answer { return does(o, th, c) })
		if !slices.Equal(w.Trace(), x.want) || !trial.Same(got, x.answers) {
			t.Errorf("%s: %v %v", x.name, w.Trace(), got)
		}
	}
}

// in a world that was stuck already nobody waits: who comes while it goes on is told so, and later what came of it
func TestInAStuckWorld(t *testing.T) {
	w := turn.New([]int{0, 0, 0, 0, 0, 1, 1, 1, 0, 0})
	o, never := once.New(w), cell.New(w, 0)
	got := trial.Calls(w, [][]api.Call{acts(0, 7, 0, 8), acts(0, 9, 0, 9, 0, 9)}, func(x *turn.Thread, c api.Call) api.Answer {
		if !w.Stuck() && never.Until(x, 0) {
			t.Error("it was not stuck")
		}
		return does(o, x, c)
	})
	zero, over := going(0), done(api.OK)
	want := []api.Step{
		trial.Step(0, 2, api.StepLoad, 0, 0), trial.Step(1, 2, api.StepLoad, 0, 0), trial.Step(-1, -1, api.StepStuck, 0, 0),
		load(0, 0), takes(0), load(1, zero), load(1, zero), gives(0, 7), keeps(0, 0), load(1, over), load(0, over), reads(1, 7), reads(0, 7),
	}
	if !slices.Equal(w.Trace(), want) || !trial.Same(got, [][]api.Answer{{fine(7), fine(7)}, {stuck, stuck, fine(7)}}) {
		t.Error(got, w.Trace())
	}
}

// any acts, by the once's own calls, under many schedules
func TestDo(t *testing.T) {
	r := trial.Row(1)
	seen := map[api.Errno]int{}
	for range 3000 {
		scripts := r.Scripts(r.One(1, 2, 3, api.MaxThreads), 4, 0, 1, 2, 3, 4, -1, 1<<32+2)
		told := calls(t, r.Schedule(40), scripts)
		for _, x := range slices.Concat(told.Answers...) {
			seen[x.Code]++
		}
	}
	for _, e := range []api.Errno{api.OK, api.ErrArg, api.ErrOnceFail, api.ErrOncePanic} {
		if seen[e] < 300 {
			t.Errorf("the calls are too tame: %v", seen)
		}
	}
}

// a free thread alone is answered as the steps say
func TestFreely(t *testing.T) {
	for id := range 256 {
		free := turn.Free(id)
		for _, v := range []int{0, 5, -5, math.MaxInt, math.MinInt} {
			for kind, comes := range answers(fine(v), failed(v), panicked(v), itself, arg) {
				o := once.New(nil)
				for i, c := range acts(kind, v, 0, 99, 2, 98, 3, 97, kind, v) {
					if got := does(o, free, c); got != comes {
						t.Fatalf("the thread %d, the Kind %d with %d, the call %d: %v", id, kind, v, i, got)
					}
				}
				if got := o.Do(turn.Free(255-id), api.Act{Value: 1}); got != comes {
					t.Fatalf("the thread %d, behind the end of %d: %v", 255-id, id, got)
				}
			}
		}
	}
}

// free threads at one time are all answered alike. Few times only: where there are fewer processors than threads, who waits freely takes much of the others' time.
func TestFreelyTogether(t *testing.T) {
	var none *turn.World
	for kind := range 5 {
		for range 5 {
			o, got := once.New(nil), [api.MaxThreads]api.Answer{}
			none.Run(slices.Repeat([]func(*turn.Thread){func(x *turn.Thread) {
				got[x.Id()] = o.Do(x, api.Act{Kind: kind, Value: 10 + x.Id()})
			}}, api.MaxThreads))
			code := answers(fine(0), failed(0), panicked(0), failed(0), arg)[kind].Code
			for _, x := range got {
				if x != got[0] || x.Code != code {
					t.Fatalf("the Kind %d: %v", kind, got)
				}
			}
			if v := got[0].Value; kind < 3 && (v < 10 || v >= 10+api.MaxThreads) || kind == 3 && v != 72 || kind == 4 && v != 0 {
				t.Errorf("the Kind %d: %v", kind, got)
			}
		}
	}
}

// P7.2

// the chapter's examples
func TestExamples(t *testing.T) {
	begins, ends := trial.Begin, trial.End
	fail := done(api.ErrOnceFail)
	alone := func(x api.Answer, between ...api.Step) []api.Step {
		all := slices.Insert(first(0, x), 2, between...)
		all = append(append([]api.Step{begins(0, 0)}, all...), ends(0, 0, x.Code), begins(0, 1))
		return append(append(all, later(0, x)...), ends(0, 1, x.Code))
	}
	for i, x := range []struct {
		scripts [][]api.Call
		answers [][]api.Answer
		want    []api.Step
	}{
		{[][]api.Call{script(1, 0, 7, 1, 0, 8)}, [][]api.Answer{{fine(7), fine(7)}}, alone(fine(7))},
		{[][]api.Call{script(2, 0, 7), script(1, 0, 8)}, [][]api.Answer{{failed(7)}, {failed(7)}}, []api.Step{
			begins(0, 0), begins(1, 0), load(0, 0), load(1, 0), takes(0), fails(1, 1), gives(0, 7), load(1, 1), keeps(0, 70), ends(0, 0, 70),
			wakes(1), load(1, fail), reads(1, 7), ends(1, 0, 70)}},
		{[][]api.Call{script(3, 0, -1, 1, 0, 8)}, [][]api.Answer{{panicked(-1), panicked(-1)}}, alone(panicked(-1))},
		{[][]api.Call{script(4, 0, 5, 1, 0, 8)}, [][]api.Answer{{failed(72), failed(72)}}, alone(failed(72), load(0, 1))},
		{[][]api.Call{script(9, 0, 5, 1, 0, 8)}, [][]api.Answer{{arg, fine(8)}}, []api.Step{
			begins(0, 0), ends(0, 0, 1), begins(0, 1), load(0, 0), takes(0), gives(0, 8), keeps(0, 0), ends(0, 1, 0)}},
		{[][]api.Call{script(2, 0, 4, 1, 0, 8)}, [][]api.Answer{{failed(4), failed(4)}}, alone(failed(4))},
	} {
		if told := plays(t, nil, 1, x.scripts); !trial.Same(told.Answers, x.answers) || !slices.Equal(told.Trace, x.want) {
			t.Errorf("%d: %v", i, told)
		}
	}
}

// someScripts are of all Ops, of a few onces that are named in many ways, with all kinds of numbers.
func someScripts(r *trial.Row, threads, most, many int) [][]api.Call {
	out := r.Scripts(threads, most, 1, 2, 3, 4, r.One(0, 1, 5, -1))
	for _, calls := range out {
		for i := range calls {
			calls[i].A = r.Below(many+1) + many*r.One(0, 1, -1, 1000, -1000)
			calls[i].B = r.One(0, 1, 2, 3, -1, 72, 1<<40, math.MaxInt, math.MinInt)
		}
	}
	return out
}

// many Plays, under many schedules, against the model
func TestPlay(t *testing.T) {
	r := trial.Row(2)
	seen := map[api.Errno]int{}
	woken, failed := 0, 0
	for range 5000 {
		many := 1 + r.Below(r.One(1, 2, 5))
		told := plays(t, r.Schedule(80), many, someScripts(&r, r.One(1, 2, 3, api.MaxThreads), 5, many))
		woken += trial.Number(told.Count(trial.Wakes) > 0)
		failed += trial.Number(told.Count(trial.Fails) > 0)
		for _, x := range slices.Concat(told.Answers...) {
			seen[x.Code]++
		}
	}
	if min(woken, failed, seen[api.OK], seen[api.ErrOnceFail], seen[api.ErrOncePanic], seen[api.ErrArg]) < 500 || len(seen) != 4 {
		t.Errorf("the Plays are too tame: %d woken, %d failed, answers %v", woken, failed, seen)
	}
}

// each once has its two cells behind those of the one before, and A names it whatever it is
func TestWhich(t *testing.T) {
	for _, many := range []int{1, 2, 3, 7, api.MaxSlots} {
		for _, a := range []int{0, 1, many - 1, many, many + 1, 5 * many, -1, -many, -many - 1, math.MaxInt, math.MinInt} {
			at := rest(a, many)
			told := plays(t, nil, many, [][]api.Call{script(1, a, 5, 2, at, 6, 2, at-many, 6, 3, at+many, 6)})
			if !trial.Same(told.Answers, [][]api.Answer{slices.Repeat(answers(fine(5)), 4)}) {
				t.Errorf("%d of %d: %v", a, many, told.Answers)
			}
			for _, s := range trial.Bare(told.Trace) {
				if s.Cell/2 != at {
					t.Errorf("%d of %d: %v", a, many, s)
				}
			}
		}
	}
}

// of MaxSlots onces each is its own
func TestMany(t *testing.T) {
	for _, schedule := range [][]int{nil, slices.Repeat([]int{5, 3, -1}, 500)} {
		scripts := make([][]api.Call, api.MaxThreads)
		for i := range scripts {
			for j := range api.MaxCalls {
				scripts[i] = append(scripts[i], api.Call{Op: 1, A: api.MaxSlots - 1 - i*api.MaxCalls - j, B: i*api.MaxCalls + j})
			}
		}
		told := plays(t, schedule, api.MaxSlots, scripts)
		for i, x := range slices.Concat(told.Answers...) {
			if x != fine(i) {
				t.Fatal(i, x)
			}
		}
	}
}

// C is not looked at; of an Op that there is not neither A nor B
func TestNotLookedAt(t *testing.T) {
	for _, n := range []int{0, 1, -1, 2, math.MaxInt, math.MinInt} {
		told := plays(t, nil, 2, [][]api.Call{{{Op: 5, A: n, B: n, C: n}, {Op: 1, A: 0, B: 3, C: n}, {Op: 4, A: 1, B: n, C: n}, {Op: 0, A: n, B: n, C: n}, {Op: 2, A: 1, C: n}, {Op: 2, A: 0, C: n}}})
		if !trial.Same(told.Answers, [][]api.Answer{{arg, fine(3), itself, arg, itself, fine(3)}}) {
			t.Error(n, told)
		}
	}
}

// an Op that there is not is told, and the script goes on
func TestNoSuchOp(t *testing.T) {
	for _, op := range trial.Strange(4) {
		told := plays(t, nil, 1, [][]api.Call{script(op, 0, 3, 1, 0, 5), script(op, 0, 4)})
		want := []api.Step{trial.Begin(0, 0), trial.End(0, 0, api.ErrArg), trial.Begin(0, 1), trial.Begin(1, 0), trial.End(1, 0, api.ErrArg)}
		want = append(append(want, first(0, fine(5))...), trial.End(0, 1, 0))
		if !slices.Equal(told.Trace, want) || !trial.Same(told.Answers, [][]api.Answer{{arg, fine(5)}, {arg}}) {
			t.Error(op, told)
		}
	}
}

// a schedule may be shorter or longer than what is done, of any numbers
func TestSchedules(t *testing.T) {
	all := [][]api.Call{script(1, 0, 1, 2, 1, 2), script(2, 1, 3, 3, 0, 4), script(4, 0, 5)}
	for _, schedule := range [][]int{nil, {}, {2}, {-1}, {-1, -2, -3, -4}, {math.MinInt, math.MaxInt}, slices.Repeat([]int{-1}, 500), slices.Repeat([]int{0, 7, -5}, 200)} {
		told := plays(t, schedule, 2, all)
		if again := plays(t, schedule, 2, all); !again.Same(told) {
			t.Error("another time otherwise", schedule, told, again)
		}
	}
}

// at the limits: eight threads, 64 calls each
func TestGreatest(t *testing.T) {
	for op := 1; op <= 5; op++ {
		for _, many := range []int{1, 64, api.MaxSlots} {
			calls := make([]api.Call, api.MaxCalls)
			for i := range calls {
				calls[i] = api.Call{Op: op, A: -i, B: i}
			}
			told := plays(t, nil, many, slices.Repeat([][]api.Call{calls}, api.MaxThreads))
			if all := slices.Concat(told.Answers...); len(all) != api.MaxThreads*api.MaxCalls {
				t.Errorf("%d answers", len(all))
			}
			plays(t, []int{-1, -1, -1, 0}, many, [][]api.Call{calls})
		}
	}
}

// the threads 0 and 7 as those that carry it out, with all the others behind
func TestWho(t *testing.T) {
	scripts := make([][]api.Call, api.MaxThreads)
	for i := range scripts {
		scripts[i] = script(1, 0, 10+i)
	}
	for _, who := range []int{0, 7} {
		told := plays(t, []int{who, who}, 1, scripts)
		stood := told.Trace[api.MaxThreads+1]
		if stood != takes(who) || stood.New != 1+4*who || !trial.Same(told.Answers, slices.Repeat([][]api.Answer{{fine(10 + who)}}, api.MaxThreads)) {
			t.Error(who, stood, told.Answers)
		}
		if told.Count(trial.Wakes) == 0 {
			t.Error("nobody had to wait")
		}
	}
}

func TestNoCalls(t *testing.T) {
	told := plays(t, nil, 1, [][]api.Call{nil})
	if len(told.Trace) != 0 || len(told.Answers) != 1 || len(told.Answers[0]) != 0 {
		t.Error(told)
	}
	plays(t, nil, api.MaxSlots, make([][]api.Call, api.MaxThreads))
	told = plays(t, []int{1}, 1, [][]api.Call{{}, script(3, 0, 4), nil})
	if !trial.Same(told.Answers, [][]api.Answer{{}, {panicked(4)}, {}}) {
		t.Error(told)
	}
}

// the cells of a world that has others go behind these, and it is the WORD there that is awaited
func TestCellsBehindOthers(t *testing.T) {
	w := turn.New([]int{0, 0, 0, 0, 0})
	cell.New(w, 77)
	a, e := once.Play(w, 3, [][]api.Call{script(1, 1, 7), script(2, 1, 8)})
	want := []api.Step{load(0, 0), takes(0), gives(0, 7), keeps(0, 0), load(1, 2), reads(1, 7)}
	for i := range want {
		want[i].Cell += 3
	}
	if e != api.OK || !trial.Same(a, [][]api.Answer{{fine(7)}, {fine(7)}}) || !slices.Equal(trial.Bare(w.Trace()), want) {
		t.Error(a, e, w.Trace())
	}
	if behind := w.Cell(); behind != 7 {
		t.Errorf("it made %d cells", behind-1)
	}
	w = turn.New([]int{0, 0, 1})
	cell.New(w, 77)
	a, e = once.Play(w, 2, [][]api.Call{script(1, 1, 7), script(2, 1, 8)})
	want = []api.Step{load(0, 0), takes(0), load(1, 1), gives(0, 7), keeps(0, 0), wakes(1), load(1, 2), reads(1, 7)}
	for i := range want {
		want[i].Cell += 3
	}
	if e != api.OK || !trial.Same(a, [][]api.Answer{{fine(7)}, {fine(7)}}) || !slices.Equal(trial.Bare(w.Trace()), want) {
		t.Error(a, e, w.Trace())
	}
}

func TestRefused(t *testing.T) {
	calls := script(1, 0, 7, 4, 0, 1, 9, 0, 0)
	for _, many := range []int{1, 2, api.MaxSlots} {
		if err := player(many).Refuses(calls); err != nil {
			t.Errorf("%d: %v", many, err)
		}
	}
	for _, many := range []int{0, -1, api.MaxSlots + 1, -api.MaxSlots, 1<<32 + 1, math.MaxInt, math.MinInt} {
		for _, some := range [][]api.Call{nil, calls} {
			if err := player(many).RefusesAll(some); err != nil {
				t.Errorf("%d: %v", many, err)
			}
		}
	}
}

// P7.3
func TestMemory(t *testing.T) {
	for _, many := range []int{1, 3} {
		for _, calls := range [][]api.Call{script(1, 0, 7, 1, 1, 8), script(4, 0, 7), script(2, 2, -1, 3, 1, 5, 9, 0, 0)} {
			if err := player(many).Keeps(calls); err != nil {
				t.Errorf("%d of %v: %v", many, calls, err)
			}
		}
	}
}
