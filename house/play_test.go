package house_test

import (
	"math"
	"reflect"
	"slices"
	"testing"

	"butler/api"
	"butler/house"
	"butler/scope"
	"butler/trial"
	"butler/turn"
)

// player is Play of these recipes.
func player(l []api.Recipe) trial.Player {
	return func(w *turn.World, scripts [][]api.Call) ([][]api.Answer, api.Errno) {
		return house.Play(w, l, scripts)
	}
}

// freePlayer is likewise, of no world, whatever it is handed.
func freePlayer(l []api.Recipe) trial.Player {
	return func(_ *turn.World, scripts [][]api.Call) ([][]api.Answer, api.Errno) {
		return house.Play(nil, l, scripts)
	}
}

// plays carries a Play out that may not fail, and holds it against the tree's by the same schedule.
func plays(t *testing.T, schedule []int, l []api.Recipe, calls [][]api.Call) trial.Told {
	t.Helper()
	got, e := player(l).Tell(schedule, calls)
	want, of := trial.Player(func(w *turn.World, scripts [][]api.Call) ([][]api.Answer, api.Errno) {
		return scope.Play(w, l, scripts)
	}).Tell(schedule, calls)
	if e != api.OK || of != api.OK || !got.Same(want) {
		t.Fatalf("%v, %v of %v: error %d,\n%v\nis to be, error %d,\n%v", schedule, calls, l, e, got, of, want)
	}
	return got
}

// playsFreely carries a Play of no world out that may not fail, and asks for all that follows, whoever goes.
func playsFreely(t *testing.T, l []api.Recipe, calls [][]api.Call) [][]api.Answer {
	t.Helper()
	told, e := freePlayer(l).Tell(nil, calls)
	if e != api.OK || len(told.Answers) != len(calls) {
		t.Fatal(l, calls, e)
	}
	for thread, x := range told.Answers {
		if len(x) != len(calls[thread]) {
			t.Fatal(l, calls, told.Answers)
		}
	}
	if err := (trial.Played{Told: told, Recipes: l, Scripts: calls}).FollowsFreely(); err != nil {
		t.Fatalf("freely: %v: %v of %v: %v", err, calls, l, told.Answers)
	}
	return told.Answers
}

// noted are the keys and scopes of such notes, in their order.
func noted(told trial.Told, op int) [][2]int {
	var out [][2]int
	for _, s := range told.Trace {
		if s.Op == op {
			out = append(out, [2]int{s.Old, s.New})
		}
	}
	return out
}

// P15.3

// the chapter's examples, and those of the document's examples of the whole that a house plays
func TestExamples(t *testing.T) {
	for i, x := range []struct {
		l             []api.Recipe
		calls         [][]api.Call
		answers       [][]api.Answer
		built, closed [][2]int
	}{
		{example(), scripts(script(ask(0, 0), open(0), ask(1, 2), shut(0), ask(1, 2))), all(answers(fine(5), fine(1), fine(18), fine(0), isShut)),
			[][2]int{{0, 0}, {2, 1}, {1, 1}}, [][2]int{{2, 1}, {1, 1}, {0, 0}}},
		{example(), scripts(script(open(0), ask(1, 1)), script(open(0), ask(2, 1))), all(answers(fine(1), fine(12)), answers(fine(2), fine(12))),
			[][2]int{{1, 1}, {0, 0}, {1, 2}}, nil},
		{recipes(gives(0, 5), gives(0, 7, 0)), scripts(script(ask(0, 1), ask(0, 0))), all(answers(fine(12), fine(5))), [][2]int{{1, 0}, {0, 0}}, nil},
		{recipes(gives(0, 5), gives(1, 7, 0)), scripts(script(open(0), ask(1, 1), shut(0), ask(0, 0))), all(answers(fine(1), fine(12), fine(0), isShut)),
			[][2]int{{1, 1}, {0, 0}}, [][2]int{{1, 1}, {0, 0}}},
		{recipes(gives(0, 5)), scripts(script(ask(0, 0), api.Call{Op: 9}), nil), all(answers(fine(5), arg), nil), [][2]int{{0, 0}}, nil},
	} {
		told := plays(t, nil, x.l, x.calls)
		if !trial.Same(told.Answers, x.answers) || !slices.Equal(noted(told, api.StepBuild), x.built) || !slices.Equal(noted(told, api.StepClose), x.closed) || told.Stuck {
			t.Errorf("%d: %v", i, told)
		}
	}
}

// the chapter's second example by other schedules: the numbers may be the other way round, and the other one's scope not ready yet; where both are, the key 1 is built in each, 0 once in the root
func TestTwoKids(t *testing.T) {
	r, both, otherWay := trial.Row(2), 0, 0
	for range 300 {
		told := plays(t, r.Schedule(60), example(), scripts(script(open(0), ask(1, 1)), script(open(0), ask(2, 1))))
		first, second := told.Answers[0], told.Answers[1]
		turned := first[0] == fine(2) && second[0] == fine(1)
		if !turned && (first[0] != fine(1) || second[0] != fine(2)) || first[1] != fine(12) && (!turned || first[1] != noScope) || second[1] != fine(12) && (!turned || second[1] != noScope) {
			t.Fatal(told)
		}
		otherWay += trial.Number(turned)
		if first[1] == second[1] && first[1] == fine(12) {
			built := noted(told, api.StepBuild)
			slices.SortFunc(built, func(a, b [2]int) int { return slices.Compare(a[:], b[:]) })
			if !slices.Equal(built, [][2]int{{0, 0}, {1, 1}, {1, 2}}) {
				t.Fatal(built)
			}
			both++
		}
	}
	if both < 50 || otherWay < 50 {
		t.Errorf("too tame: %d, %d", both, otherWay)
	}
}

// by hand: each step of an Ask, an Open and a Close, with their notes
func TestSteps(t *testing.T) {
	// of one key, which fails: WORD 51, VALUE 52, the chain 53, the gate 54, DONE 55 with its HEAD 58, KIDS 61 with its HEAD 162, RESULT 263, END 264
	told := plays(t, nil, recipes(failing(0, 3)), scripts(script(ask(0, 0), ask(7, 0), shut(0), api.Call{Op: 4}, open(0))))
	step := func(cell, op, before, after int) api.Step { return trial.Step(0, cell, op, before, after) }
	load := func(cell, v int) api.Step { return step(cell, api.StepLoad, v, v) }
	want := []api.Step{
		trial.Begin(0, 0), load(1, 1), load(54, 0), step(54, api.StepCas, 0, 2), load(51, 0), step(51, api.StepCas, 0, trial.Going(0)),
		step(-1, api.StepBuild, 0, 0), step(52, api.StepStore, 0, 3), step(51, api.StepStore, trial.Going(0), trial.Done(api.ErrOnceFail)),
		load(54, 2), step(54, api.StepCas, 2, 0), trial.End(0, 0, api.ErrOnceFail),
		trial.Begin(0, 1), load(8, 0), trial.End(0, 1, api.ErrHouseScope),
		trial.Begin(0, 2), load(1, 1), load(54, 0), step(54, api.StepCas, 0, 1), load(54, 1), load(162, 0), load(58, 0),
		step(263, api.StepStore, 0, 0), step(264, api.StepStore, 0, 1), trial.End(0, 2, api.OK),
		trial.Begin(0, 3), trial.End(0, 3, api.ErrArg),
		trial.Begin(0, 4), load(1, 1), load(54, 1), trial.End(0, 4, api.ErrScopeShut),
	}
	if !slices.Equal(told.Trace, want) || !slices.Equal(told.Answers[0], answers(failed(3), noScope, fine(0), arg, isShut)) {
		t.Errorf("%v\nis to be\n%v", told, want)
	}
}

// many Plays, under many schedules: what scope.Play does, step by step, and what the chapter's words say
func TestPlay(t *testing.T) {
	r, c := trial.Row(3), codes{}
	for i := range 3000 {
		l := r.FlatRecipes(r.One(1, 2, 3, 4, 6, 12))
		calls, schedule := r.TreeScripts(len(l), r.One(1, 2, 3, api.MaxThreads), 6, r.One(1, 2, 3), r.One(0, 4, -1)), r.Schedule(500)
		told := plays(t, schedule, l, calls)
		if want := trial.Tree(l, calls).Play(schedule); i%5 == 0 && !told.Same(want) {
			t.Fatalf("%v, %v of %v: %v\nis to be\n%v", schedule, calls, l, told, want)
		}
		c.of(told.Answers)
	}
	if c.least(api.ErrArg) < 200 || len(c) > 10 {
		t.Errorf("the Plays are too tame: %v", c)
	}
}

// threads that get into each other's way, under many schedules
func TestSmall(t *testing.T) {
	r := trial.Row(4)
	for _, x := range trial.SmallPlays() {
		for range 200 {
			plays(t, r.Schedule(120), x.Recipes, x.Scripts)
		}
	}
}

// a schedule may be shorter or longer than what is done, of any numbers; the same one tells the same
func TestSchedules(t *testing.T) {
	calls := scripts(script(open(0), ask(1, 2), shut(1)), script(ask(0, 0), open(0), shut(0)), script(ask(1, 1), ask(0, 0), shut(0)))
	for _, schedule := range [][]int{nil, {}, {2}, {-1}, {-1, -2, -3, -4}, {math.MinInt, math.MaxInt}, times(900, -1), times(300, 0, 7, -5)} {
		told := plays(t, schedule, example(), calls)
		if other := plays(t, schedule, example(), calls); !other.Same(told) {
			t.Error("another time otherwise", schedule, told, other)
		}
	}
}

// what an Op does not name is not looked at, nor anything of a call that there is not
func TestNotLookedAt(t *testing.T) {
	l := recipes(gives(0, 3), ending(gives(0, 4), 1))
	for _, n := range []int{0, 1, -1, 2, 50, math.MaxInt, math.MinInt} {
		calls := scripts(script(api.Call{Op: 4, A: n, B: n, C: n}, api.Call{Op: 1, A: 0, B: 1, C: n}, api.Call{Op: 2, A: 0, B: n, C: n}, api.Call{Op: 0, A: n, B: n, C: n}, api.Call{Op: 3, A: 0, B: n, C: n}))
		want := all(answers(arg, fine(4), fine(1), arg, failed(1)))
		if told := plays(t, nil, l, calls); !trial.Same(told.Answers, want) {
			t.Error(n, told)
		}
		if got := playsFreely(t, l, calls); !trial.Same(got, want) {
			t.Error(n, got)
		}
	}
}

// an Op that there is not is told, without a step, and the script goes on
func TestNoSuchOp(t *testing.T) {
	for _, op := range trial.Strange(3) {
		calls := scripts(script(api.Call{Op: op}, ask(0, 0)), script(api.Call{Op: op, A: -1}))
		want := all(answers(arg, panicked(5)), answers(arg))
		told := plays(t, nil, recipes(panics(0, 5)), calls)
		if !trial.Same(told.Answers, want) || !slices.Equal(told.Trace[:5], []api.Step{trial.Begin(0, 0), trial.End(0, 0, api.ErrArg), trial.Begin(0, 1), trial.Begin(1, 0), trial.End(1, 0, api.ErrArg)}) {
			t.Error(op, told)
		}
		if got := playsFreely(t, recipes(panics(0, 5)), calls); !trial.Same(got, want) {
			t.Error(op, got)
		}
	}
}

// scripts without calls, by turns and freely
func TestNoCalls(t *testing.T) {
	for _, calls := range [][][]api.Call{scripts(nil), scripts(script(), nil), make([][]api.Call, api.MaxThreads)} {
		want := make([][]api.Answer, len(calls))
		if told := plays(t, nil, example(), calls); len(told.Trace) != 0 || !trial.Same(told.Answers, want) {
			t.Error(told)
		}
		if got := playsFreely(t, example(), calls); !trial.Same(got, want) {
			t.Error(got)
		}
	}
	calls, want := scripts(nil, script(ask(0, 0), open(0)), script()), all(nil, answers(fine(5), fine(1)), nil)
	if told := plays(t, []int{1}, example(), calls); !trial.Same(told.Answers, want) {
		t.Error(told)
	}
	if got := playsFreely(t, example(), calls); !trial.Same(got, want) {
		t.Error(got)
	}
}

// greatest are eight scripts of 64 calls, which open more scopes than there may be, down to the last Level; the root is closed in the end.
func greatest() [][]api.Call {
	calls := make([][]api.Call, api.MaxThreads)
	for thread := range calls {
		for n := range api.MaxCalls {
			calls[thread] = append(calls[thread], script(open(min(n/4, 6)), ask(n/2, 99-n), ask(n%3, n), open(n%9))[(n+thread)%4])
		}
	}
	calls[7][63], calls[6][63], calls[5][40] = shut(0), shut(0), shut(2)
	return calls
}

// at the limits, by turns and freely
func TestGreatest(t *testing.T) {
	for i, l := range trial.GreatRecipes() {
		for _, schedule := range [][]int{nil, times(4000, 5, 3, -1)} {
			told := plays(t, schedule, l, greatest())
			if last := told.Answers[7][63]; told.Answers[6][63] != last || last == noScope {
				t.Error(i, told.Answers)
			}
			if !slices.Contains(slices.Concat(told.Answers...), big) {
				t.Error(i, "never more scopes than there may be")
			}
		}
		playsFreely(t, l, greatest())
	}
}

// P15.4: which errors, and which of several comes first, of a world, of one that has run, and of none
func TestRefused(t *testing.T) {
	fine, long := script(ask(0, 0), open(0), shut(0), api.Call{Op: 9}), make([]api.Call, api.MaxCalls+1)
	ran, fresh := turn.New(nil), turn.New(nil)
	ran.Run(nil)
	for i, x := range []struct {
		scripts [][]api.Call
		error   api.Errno
	}{
		{scripts(fine), api.OK}, {scripts(nil), api.OK}, {times(api.MaxThreads, make([]api.Call, api.MaxCalls)), api.OK},
		{nil, api.ErrArg}, {scripts(), api.ErrArg}, {times(api.MaxThreads+1, fine), api.ErrArg}, {make([][]api.Call, 100), api.ErrArg},
		{scripts(long), api.ErrLong}, {scripts(fine, nil, times(20, long...)), api.ErrLong}, {append(times(api.MaxThreads+1, fine), long), api.ErrLong},
	} {
		for j, l := range append(trial.WrongRecipes(), trial.Wrong{Recipes: example()}) {
			for _, w := range []*turn.World{nil, ran, fresh} {
				want := x.error
				switch {
				case want == api.OK && w == ran:
					want = api.ErrArg
				case want == api.OK:
					want = l.Error
				}
				if want == api.OK && w == fresh {
					w = turn.New(nil)
				}
				a, e := house.Play(w, l.Recipes, x.scripts)
				if e != want || e != api.OK && len(a) != 0 || e == api.OK && len(a) != len(x.scripts) {
					t.Errorf("the scripts %d, the recipes %d, a world that has run: %v, none: %v: error %d, %v", i, j, w == ran, w == nil, e, a)
				}
			}
		}
	}
	if fresh.Ran() || len(fresh.Trace()) != 0 || len(ran.Trace()) != 0 {
		t.Error("what was refused has done something")
	}
	if a, e := house.Play(fresh, example(), scripts(fine)); e != api.OK || len(a) != 1 {
		t.Error(a, e)
	}
	if _, e := house.Play(fresh, example(), scripts(fine)); e != api.ErrArg {
		t.Error("a world has run twice", e)
	}
}

// P15.5

// what is handed in is neither changed nor kept
func TestMemory(t *testing.T) {
	r := trial.Row(9)
	for range 300 {
		l := trial.RoomyRecipes(r.FlatRecipes(6))
		given := trial.WholeRecipes(l)
		calls := r.TreeScripts(len(l), 3, 5)
		want := plays(t, nil, l, calls)
		playsFreely(t, l, calls)
		w := turn.New(nil)
		do := does(made(t, w, l))
		if !reflect.DeepEqual(trial.WholeRecipes(l), given) {
			t.Fatalf("the recipes were changed: %v, they were %v", trial.WholeRecipes(l), given)
		}
		trial.SpoilRecipes(l)
		got := trial.Calls(w, calls, func(x *turn.Thread, c api.Call) api.Answer {
			a := do(x, c)
			trial.SpoilRecipes(l)
			return a
		})
		if !trial.Same(got, want.Answers) || !slices.Equal(w.Trace(), trial.Bare(want.Trace)) {
			t.Fatalf("%v of %v hang on what was handed in: %v, not %v", calls, given, got, want.Answers)
		}
	}
	for _, calls := range [][]api.Call{script(ask(0, 0), shut(0)), script(open(0), ask(1, 2), shut(0), api.Call{Op: 9})} {
		for _, p := range []trial.Player{player(example()), freePlayer(example())} {
			if err := p.Keeps(calls); err != nil {
				t.Errorf("%v: %v", calls, err)
			}
		}
	}
}
