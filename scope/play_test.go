package scope_test

import (
	"math"
	"reflect"
	"slices"
	"testing"

	"butler/api"
	"butler/cell"
	"butler/play"
	"butler/scope"
	"butler/trial"
	"butler/turn"
)

// count counts what was told.
type count struct {
	codes                 map[api.Errno]int
	woken, tried          int
	built, closed, opened int
}

func (c *count) of(told trial.Told) {
	if c.codes == nil {
		c.codes = map[api.Errno]int{}
	}
	for _, x := range slices.Concat(told.Answers...) {
		c.codes[x.Code]++
	}
	c.woken += told.Count(trial.Wakes)
	c.tried += told.Count(trial.Fails)
	c.built += told.Count(func(s api.Step) bool { return s.Op == api.StepBuild })
	c.closed += told.Count(func(s api.Step) bool { return s.Op == api.StepClose })
	c.opened += told.Count(func(s api.Step) bool { return s.Op == api.StepAdd })
}

// least is how often that was told which was told least.
func (c *count) least(codes ...api.Errno) int {
	least := min(c.woken, c.tried, c.built, c.closed, c.opened)
	for _, e := range codes {
		least = min(least, c.codes[e])
	}
	return least
}

// ordinary are all codes that the calls of a tree tell.
func ordinary() []api.Errno {
	return []api.Errno{api.OK, api.ErrOnceFail, api.ErrOncePanic, api.ErrBoxRing, api.ErrBoxNeed, api.ErrScopeShut, api.ErrHouseKey, api.ErrHouseScope}
}

// any calls of a tree's own, under many schedules, by up to 20 threads
func TestCalls(t *testing.T) {
	r := trial.Row(1)
	var c count
	for range 1500 {
		l := r.FlatRecipes(r.One(1, 2, 3, 4, 6, 12))
		calls, schedule := r.TreeScripts(len(l), r.One(1, 2, 3, api.MaxThreads, 20), 5), r.Schedule(400)
		got, _ := trial.Player(func(w *turn.World, scripts [][]api.Call) ([][]api.Answer, api.Errno) {
			return play.Run(w, scripts, does(made(t, w, l))), api.OK
		}).Tell(schedule, calls)
		if want := trial.Tree(l, calls).Play(schedule); !got.Same(want) {
			t.Fatalf("%v, %v of %v:\n%v\nis to be\n%v", schedule, calls, l, got, want)
		}
		c.of(got)
	}
	if c.least(ordinary()...) < 100 {
		t.Errorf("the calls are too tame: %v", c)
	}
}

// a tree of no world, and a free thread alone: it is answered as the steps say
func TestFreely(t *testing.T) {
	r := trial.Row(5)
	var c count
	for _, id := range []int{0, 1, 7, 100, 255} {
		for range 100 {
			l := r.FlatRecipes(r.One(1, 3, 8, 40))
			do, x := does(made(t, nil, l)), turn.Free(id)
			calls := slices.Concat(r.TreeScripts(len(l), 3, 20)...)
			told := trial.Tree(l, scripts(calls)).Play(nil)
			for i, want := range told.Answers[0] {
				if got := do(x, calls[i]); got != want {
					t.Fatalf("the thread %d, the call %d of %v, of %v: %v, not %v", id, i, calls, l, got, want)
				}
				if want.Code != api.ErrHouseScope && calls[i].Op != 2 && do(turn.Free(255-id), calls[i]) != want {
					t.Fatalf("the thread %d behind it, the call %d of %v, of %v: not %v", 255-id, i, calls, l, want)
				}
			}
			c.of(told)
		}
	}
	if c.woken, c.tried = 100, 100; c.least(ordinary()...) < 50 {
		t.Errorf("the calls are too tame: %v", c)
	}
}

// a tree of no world to its limits
func TestFreelyToTheLimits(t *testing.T) {
	x := turn.Free(3)
	s := made(t, nil, times(api.MaxKeys, ending(gives(0, 1), 1)))
	for n := 1; n < api.MaxScopes; n++ {
		if kid, e := s.Open(x); e != api.OK || kid.Number() != n || kid.Ask(x, n) != fine(1) {
			t.Error(n, kid, e)
		}
	}
	for range 3 {
		if kid, e := s.Open(x); kid != nil || e != api.ErrBig {
			t.Error(kid, e)
		}
	}
	if a := s.Close(x); a != failed(49) || s.Close(x) != a {
		t.Error(a)
	}
}

// P14.2

// the chapter's examples
func TestExamples(t *testing.T) {
	first := script(ask(0, 0), ask(0, 1), open(0), ask(1, 2), ask(1, 1))
	second := slices.Concat(first, script(shut(1), ask(1, 1), shut(0), ask(0, 0), shut(0)))
	told := answers(fine(5), noKey, fine(1), fine(18), fine(12))
	for i, x := range []struct {
		calls   []api.Call
		answers []api.Answer
		closed  [][2]int
	}{
		{first, told, nil},
		{second, slices.Concat(told, answers(failed(1), isShut, fine(0), isShut, fine(0))), [][2]int{{2, 1}, {1, 1}, {0, 0}}},
		{script(open(0), open(1), shut(0)), answers(fine(1), fine(2), fine(0)), nil},
		{script(ask(9, 0), shut(-1), api.Call{Op: 4}), answers(noScope, noScope, arg), nil},
	} {
		told := plays(t, nil, example(), scripts(x.calls))
		var closed [][2]int
		for _, s := range told.Trace {
			if s.Op == api.StepClose {
				closed = append(closed, [2]int{s.Old, s.New})
			}
		}
		if !slices.Equal(told.Answers[0], x.answers) || !slices.Equal(closed, x.closed) {
			t.Errorf("%d: %v, %v", i, told.Answers, closed)
		}
	}
	l := recipes(gives(0, 1, 1), gives(0, 1, 0))
	for _, x := range []struct {
		schedule []int
		want     [][]api.Answer
	}{
		{nil, all(answers(lacks(1)), answers(ring(0)))},
		{threads(0, 5, 1, 5, 0, 1, 1, 1), all(answers(ring(1)), answers(ring(0)))},
		{times(30, 0), all(answers(lacks(1)), answers(ring(0)))},
		{times(30, 1), all(answers(ring(1)), answers(lacks(0)))},
	} {
		if told := plays(t, x.schedule, l, scripts(script(ask(0, 0)), script(ask(0, 1)))); !trial.Same(told.Answers, x.want) {
			t.Error(x.schedule, told.Answers)
		}
	}
}

// scopes are closed from the inside out: in the third example each END is told ahead of that of the scope around it
func TestInsideOut(t *testing.T) {
	told := plays(t, nil, example(), scripts(script(open(0), open(1), shut(0))))
	var ends []int
	a, b := root(1).kid(1, 2), root(1).kid(1, 2).kid(2, 0)
	for _, s := range told.Trace {
		for n, x := range []by{root(1), a, b} {
			if s.Cell == x.result()+1 && s.Op == api.StepStore {
				ends = append(ends, n)
			}
		}
	}
	if !slices.Equal(ends, []int{2, 1, 0}) {
		t.Error(ends, told.Trace)
	}
}

// those of the document's examples of the whole that a tree can play
func TestExamplesOfTheWhole(t *testing.T) {
	for i, x := range []struct {
		l       []api.Recipe
		calls   []api.Call
		answers []api.Answer
	}{
		{recipes(gives(0, 5), gives(0, 7, 0)), script(ask(0, 1), ask(0, 0)), answers(fine(12), fine(5))},
		{recipes(gives(0, 5), ending(gives(1, 7, 0), 0)), script(open(0), ask(1, 1), shut(0), ask(0, 0)), answers(fine(1), fine(12), fine(0), isShut)},
	} {
		if told := plays(t, nil, x.l, scripts(x.calls)); !slices.Equal(told.Answers[0], x.answers) {
			t.Errorf("%d: %v", i, told)
		}
	}
}

// the notes of one thread's calls stand right around their steps, with the code that was told
func TestNotes(t *testing.T) {
	x := root(1)
	begins := func(i int) []api.Step { return []api.Step{trial.Begin(0, i)} }
	ends := func(i int, e api.Errno) []api.Step { return []api.Step{trial.End(0, i, e)} }
	want := steps(
		begins(0), x.finds(), x.enters(0), x.begins(0, 0), x.puts(0, 0), x.keeps(0, fine(3)), x.leaves(2), ends(0, 0),
		begins(1), by{number: 7}.misses(), ends(1, api.ErrHouseScope),
		begins(2), ends(2, api.ErrHouseScope),
		begins(3), x.finds(), ends(3, api.ErrHouseKey),
		begins(4), x.finds(), x.shuts(), x.noKids(0), x.closes(1, 0, 0), x.noMore(1), x.ends(panicked(0)), ends(4, api.ErrOncePanic),
		begins(5), x.finds(), x.sees(1), ends(5, api.ErrScopeShut),
		begins(6), ends(6, api.ErrArg))
	for _, schedule := range [][]int{nil, {0}, {-1, 5}, times(80, 3)} {
		told := plays(t, schedule, recipes(ending(gives(0, 3), 2)), scripts(script(ask(0, 0), shut(7), open(50), ask(0, 1), shut(0), open(0), api.Call{Op: 5})))
		if !slices.Equal(told.Trace, want) {
			t.Errorf("%v: %v\nis to be\n%v", schedule, told.Trace, want)
		}
	}
}

// many Plays, under many schedules, against the model
func TestPlay(t *testing.T) {
	r := trial.Row(2)
	var c count
	for range 5000 {
		l := r.FlatRecipes(r.One(1, 2, 3, 4, 6, 12))
		c.of(plays(t, r.Schedule(500), l, r.TreeScripts(len(l), r.One(1, 2, 3, api.MaxThreads), 6, r.One(1, 2, 3), r.One(0, 4, -1))))
	}
	if c.least(append(ordinary(), api.ErrArg)...) < 300 || len(c.codes) > 10 {
		t.Errorf("the Plays are too tame: %v", c)
	}
}

// what an Op does not name is not looked at, nor anything of a call that there is not
func TestNotLookedAt(t *testing.T) {
	for _, n := range []int{0, 1, -1, 2, 50, math.MaxInt, math.MinInt} {
		told := plays(t, nil, recipes(gives(0, 3), ending(gives(0, 4), 1)), scripts(script(
			api.Call{Op: 4, A: n, B: n, C: n}, api.Call{Op: 1, A: 0, B: 1, C: n}, api.Call{Op: 2, A: 0, B: n, C: n}, api.Call{Op: 0, A: n, B: n, C: n}, api.Call{Op: 3, A: 0, B: n, C: n})))
		if !slices.Equal(told.Answers[0], answers(arg, fine(4), fine(1), arg, failed(1))) {
			t.Error(n, told)
		}
	}
}

// an Op that there is not is told, without a step, and the script goes on
func TestNoSuchOp(t *testing.T) {
	x := root(1)
	for _, op := range trial.Strange(3) {
		told := plays(t, nil, recipes(failing(0, 5)), scripts(script(api.Call{Op: op}, ask(0, 0)), script(api.Call{Op: op, A: -1})))
		want := steps([]api.Step{trial.Begin(0, 0), trial.End(0, 0, api.ErrArg), trial.Begin(0, 1), trial.Begin(1, 0), trial.End(1, 0, api.ErrArg)},
			x.finds(), x.enters(0), x.begins(0, 0), x.keeps(0, failed(5)), x.leaves(2), []api.Step{trial.End(0, 1, api.ErrOnceFail)})
		if !slices.Equal(told.Trace, want) || !trial.Same(told.Answers, all(answers(arg, failed(5)), answers(arg))) {
			t.Error(op, told)
		}
	}
}

// numbers of scopes and keys are none modulo
func TestNoSuchScopeOrKey(t *testing.T) {
	for _, n := range []int{2, 3, 49, 50, 51, -1, -2, -50, 1 << 8, 1 << 16, 1 << 32, 1<<32 + 1, math.MaxInt, math.MinInt} {
		told := plays(t, nil, recipes(gives(0, 5), gives(1, 6)), scripts(script(open(0), ask(n, 0), open(n), shut(n), ask(1, n), ask(0, n), ask(1, 1))))
		if !slices.Equal(told.Answers[0], answers(fine(1), noScope, noScope, noScope, noKey, noKey, fine(6))) {
			t.Error(n, told)
		}
	}
}

// a schedule may be shorter or longer than what is done, of any numbers
func TestSchedules(t *testing.T) {
	calls := scripts(script(open(0), ask(1, 2), shut(1)), script(ask(0, 0), open(0), shut(0)), script(ask(1, 1), ask(0, 0), shut(0)))
	for _, schedule := range [][]int{nil, {}, {2}, {-1}, {-1, -2, -3, -4}, {math.MinInt, math.MaxInt}, times(900, -1), times(300, 0, 7, -5)} {
		told := plays(t, schedule, example(), calls)
		if other := plays(t, schedule, example(), calls); !other.Same(told) {
			t.Error("another time otherwise", schedule, told, other)
		}
	}
}

// at the limits: eight threads, 64 calls each, and more scopes than there may be
func TestGreatest(t *testing.T) {
	for i, l := range trial.GreatRecipes() {
		calls := make([][]api.Call, api.MaxThreads)
		for thread := range calls {
			for n := range api.MaxCalls {
				calls[thread] = append(calls[thread], script(open(min(n/4, 6)), ask(n/2, 99-n), ask(n%3, n), open(n%9))[(n+thread)%4])
			}
		}
		calls[7][63], calls[6][63], calls[5][40] = shut(0), shut(0), shut(2)
		for _, schedule := range [][]int{nil, times(4000, 5, 3, -1)} {
			told := plays(t, schedule, l, calls)
			if last := told.Answers[7][63]; told.Answers[6][63] != last || len(told.Answers[0]) != api.MaxCalls {
				t.Error(i, told.Answers)
			}
			if !slices.Contains(slices.Concat(told.Answers...), big) {
				t.Error(i, "never more scopes than there may be")
			}
		}
	}
}

// as many scopes as there may be, and more: all kids of the root, or kids of kids
func TestAllScopes(t *testing.T) {
	for _, each := range []int{2, 3, 7, 64} { // how many kids a scope has
		calls, want := make([]api.Call, 60), times(60, big)
		for i := range calls {
			calls[i] = open(i / each)
		}
		for n := 1; n < api.MaxScopes; n++ {
			want[n-1] = fine(n)
		}
		calls = append(calls, ask(49, 0), shut(49), shut(0), ask(48, 0))
		want = append(want, fine(3), fine(0), fine(0), isShut)
		if told := plays(t, nil, recipes(gives(0, 3)), scripts(calls)); !slices.Equal(told.Answers[0], want) {
			t.Errorf("%d: %v", each, told.Answers)
		}
	}
}

func TestNoCalls(t *testing.T) {
	told := plays(t, nil, recipes(gives(0, 1)), scripts(nil))
	if len(told.Trace) != 0 || len(told.Answers) != 1 || len(told.Answers[0]) != 0 {
		t.Error(told)
	}
	plays(t, nil, times(api.MaxKeys, gives(0, 1, 0)), make([][]api.Call, api.MaxThreads))
	told = plays(t, []int{1}, example(), scripts(nil, script(ask(0, 0), open(0)), script()))
	if !trial.Same(told.Answers, all(nil, answers(fine(5), fine(1)), nil)) {
		t.Error(told)
	}
}

// the cells of a world that has others go behind these; and it is the END there that is awaited
func TestCellsBehindOthers(t *testing.T) {
	w := turn.New(threads(0, 5, 1, 4, 0, 9))
	cell.New(w, 77)
	got, e := scope.Play(w, recipes(gives(1, 1)), scripts(script(shut(0)), script(shut(0))))
	x, y := root(0), root(0).of(1)
	want := steps(x.finds(), x.shuts(), x.noKids(0), y.finds(), y.late(), y.waits(), x.noMore(0), x.ends(fine(0)), y.wakesUp(), y.reads(fine(0)))
	for i := range want {
		want[i].Cell++
	}
	if e != api.OK || !trial.Same(got, all(answers(fine(0)), answers(fine(0)))) || !slices.Equal(trial.Bare(w.Trace()), want) {
		t.Error(got, e, w.Trace())
	}
	if behind := w.Cell(); behind != 1+51+207 {
		t.Errorf("it made %d cells", behind-1)
	}
}

// what every Play refuses comes first, then what recipe.Right does
func TestRefused(t *testing.T) {
	calls := script(ask(0, 0), open(0), ask(1, -5), shut(300), shut(0), api.Call{Op: 9})
	for i, l := range append(trial.GreatRecipes(), example()) {
		if err := player(l).Refuses(calls); err != nil {
			t.Errorf("%d: %v", i, err)
		}
	}
	for i, x := range trial.WrongRecipes() {
		for _, some := range [][]api.Call{nil, calls} {
			if err := player(x.Recipes).RefusesBy(x.Error, some); err != nil {
				t.Errorf("%d: %v", i, err)
			}
		}
	}
}

// P14.3

// W6: what is handed in is neither changed nor kept
func TestMemory(t *testing.T) {
	r := trial.Row(9)
	for range 300 {
		l := trial.RoomyRecipes(r.FlatRecipes(6))
		given := trial.WholeRecipes(l)
		calls := r.TreeScripts(len(l), 3, 5)
		want := plays(t, nil, l, calls)
		w := turn.New(nil)
		do := does(made(t, w, l))
		if !reflect.DeepEqual(trial.WholeRecipes(l), given) {
			t.Fatalf("the recipes were changed: %v, they were %v", trial.WholeRecipes(l), given)
		}
		trial.SpoilRecipes(l)
		got := trial.Calls(w, calls, func(x *turn.Thread, c api.Call) api.Answer {
			a := do(x, c)
			trial.SpoilRecipes(l)
			return a
		})
		if !trial.Same(got, want.Answers) || !slices.Equal(w.Trace(), trial.Bare(want.Trace)) {
			t.Fatalf("%v of %v hang on what was handed in: %v, not %v", calls, given, got, want.Answers)
		}
	}
	for _, calls := range [][]api.Call{script(ask(0, 0), shut(0)), script(open(0), ask(1, 2), shut(0), api.Call{Op: 9})} {
		if err := player(example()).Keeps(calls); err != nil {
			t.Errorf("%v: %v", calls, err)
		}
	}
}
