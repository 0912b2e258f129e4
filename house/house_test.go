package house_test

import (
	"math"
	"slices"
	"testing"

	"butler/api"
	"butler/house"
	"butler/scope"
	"butler/trial"
	"butler/turn"
)

func gives(level, v int, needs ...int) api.Recipe {
	return api.Recipe{Level: level, Needs: needs, Value: v}
}

func failing(level, v int, needs ...int) api.Recipe {
	return api.Recipe{Level: level, Needs: needs, Value: v, Act: 1}
}

func panics(level, v int, needs ...int) api.Recipe {
	return api.Recipe{Level: level, Needs: needs, Value: v, Act: 2}
}

// ending is a recipe with another End.
func ending(r api.Recipe, end int) api.Recipe {
	r.End = end
	return r
}

func recipes(l ...api.Recipe) []api.Recipe { return l }

// example are those of the chapter's examples.
func example() []api.Recipe {
	return recipes(gives(0, 5), ending(gives(1, 7, 0), 1), gives(1, 1, 1, 0))
}

func ask(scope, key int) api.Call { return api.Call{Op: 1, A: scope, B: key} }
func open(scope int) api.Call     { return api.Call{Op: 2, A: scope} }
func shut(scope int) api.Call     { return api.Call{Op: 3, A: scope} }

// script is calls, one behind the other; scripts are those of several threads.
func script(l ...api.Call) []api.Call      { return l }
func scripts(l ...[]api.Call) [][]api.Call { return l }
func answers(l ...api.Answer) []api.Answer { return l }
func all(l ...[]api.Answer) [][]api.Answer { return l }
func times[T any](many int, l ...T) []T    { return slices.Repeat(l, many) }
func code(e api.Errno) api.Answer          { return answer(e, 0) }
func answer(e api.Errno, v int) api.Answer { return api.Answer{Code: e, Value: v} }
func fine(v int) api.Answer                { return answer(api.OK, v) }
func failed(v int) api.Answer              { return answer(api.ErrOnceFail, v) }
func panicked(v int) api.Answer            { return answer(api.ErrOncePanic, v) }
func ring(need int) api.Answer             { return answer(api.ErrBoxRing, need) }
func lacks(need int) api.Answer            { return answer(api.ErrBoxNeed, need) }

var (
	noKey   = code(api.ErrHouseKey)
	noScope = code(api.ErrHouseScope)
	isShut  = code(api.ErrScopeShut)
	big     = code(api.ErrBig)
	arg     = code(api.ErrArg)
)

// strange are numbers of scopes that there are not, whatever was opened; some look like such as there are, cut off.
func strange() []int {
	return []int{-1, -2, -50, api.MaxScopes, api.MaxScopes + 1, 1 << 8, 1 << 16, 1 << 32, 1<<32 + 1, math.MaxInt, math.MinInt}
}

// made is a house that may not fail.
func made(t *testing.T, w *turn.World, l []api.Recipe) *house.House {
	t.Helper()
	h, e := house.New(w, l)
	if e != api.OK || h == nil {
		t.Fatal(l, e)
	}
	return h
}

// does is one of a house's own calls.
func does(h *house.House) func(t *turn.Thread, c api.Call) api.Answer {
	return func(t *turn.Thread, c api.Call) api.Answer {
		switch c.Op {
		case 1:
			return h.Ask(t, c.A, c.B)
		case 2:
			return h.Open(t, c.A)
		}
		return h.Close(t, c.A)
	}
}

// inTree is what P15.2 says of such a call: At of the root, then the call of what that tells.
func inTree(root *scope.Scope) func(t *turn.Thread, c api.Call) api.Answer {
	return func(t *turn.Thread, c api.Call) api.Answer {
		s, e := root.At(t, c.A)
		if e != api.OK {
			return code(e)
		}
		switch c.Op {
		case 1:
			return s.Ask(t, c.B)
		case 2:
			kid, e := s.Open(t)
			if e != api.OK {
				return code(e)
			}
			return fine(kid.Number())
		}
		return s.Close(t)
	}
}

// codes counts which ones were told.
type codes map[api.Errno]int

func (c codes) of(l [][]api.Answer) {
	for _, x := range slices.Concat(l...) {
		c[x.Code]++
	}
}

// least is how often that one was told which was told least of all that an ordinary house tells.
func (c codes) least(more ...api.Errno) int {
	least := math.MaxInt
	for _, e := range append(more, api.OK, api.ErrOnceFail, api.ErrOncePanic, api.ErrBoxRing, api.ErrBoxNeed, api.ErrScopeShut, api.ErrHouseKey, api.ErrHouseScope) {
		least = min(least, c[e])
	}
	return least
}

// P15.1

// of recipes that are not right there is no house, and scope.New's error
func TestNewRefuses(t *testing.T) {
	for i, x := range trial.WrongRecipes() {
		for _, w := range []*turn.World{nil, turn.New(nil)} {
			h, e := house.New(w, x.Recipes)
			if _, of := scope.New(nil, x.Recipes); h != nil || e != x.Error || e != of {
				t.Errorf("%d: %v, error %d", i, h, e)
			}
			if w.Cell() != 0 {
				t.Errorf("%d: it made cells", i)
			}
		}
	}
}

// a house makes the cells that its tree does, no others; its root is one, with the number 0, which finds itself
func TestNew(t *testing.T) {
	for _, l := range append(trial.GreatRecipes(), example(), recipes(gives(7, 1)), times(api.MaxKeys, gives(0, 1, 99))) {
		w, v := turn.New(nil), turn.New(nil)
		h := made(t, w, l)
		scope.New(v, l)
		if a, b := w.Cell(), v.Cell(); a != b || a == 0 {
			t.Errorf("it made %d cells, its tree %d", a, b)
		}
		if h.Number() != 0 || w.Ran() || len(w.Trace()) != 0 {
			t.Error(h.Number(), w.Trace())
		}
		free := made(t, nil, l)
		if root, e := free.At(turn.Free(0), 0); e != api.OK || root.Number() != 0 {
			t.Error(root, e)
		}
	}
}

// P15.2

// any calls of a house, under many schedules, by up to 20 threads: step by step as the tree's own
func TestCalls(t *testing.T) {
	r, c := trial.Row(1), codes{}
	for range 1500 {
		l := r.FlatRecipes(r.One(1, 2, 3, 4, 6, 12))
		calls, schedule := r.TreeScripts(len(l), r.One(1, 2, 3, api.MaxThreads, 20), 5), r.Schedule(400)
		w, v := turn.New(schedule), turn.New(schedule)
		root, _ := scope.New(v, l)
		got, want := trial.Calls(w, calls, does(made(t, w, l))), trial.Calls(v, calls, inTree(root))
		if !trial.Same(got, want) || !slices.Equal(w.Trace(), v.Trace()) || w.Stuck() {
			t.Fatalf("%v, %v of %v:\n%v, %v\nis to be\n%v, %v", schedule, calls, l, got, w.Trace(), want, v.Trace())
		}
		c.of(got)
	}
	if c.least() < 100 {
		t.Errorf("the calls are too tame: %v", c)
	}
}

// by hand: which scopes there are; with an error the Value is 0
func TestScopes(t *testing.T) {
	for _, w := range []*turn.World{turn.New(nil), nil} {
		h := made(t, w, example())
		w.Run([]func(*turn.Thread){func(x *turn.Thread) {
			looks := func(n int, want api.Answer) {
				if h.Ask(x, n, 0) != want || h.Open(x, n) != want || h.Close(x, n) != want || h.Ask(x, n, 99) != want {
					t.Errorf("the scope %d is not answered by %v", n, want)
				}
			}
			for n := range api.MaxScopes - 1 { // not yet ready
				looks(n+1, noScope)
			}
			for _, n := range strange() {
				looks(n, noScope)
			}
			got := answers(h.Open(x, 0), h.Open(x, 1), h.Ask(x, 1, 2), h.Ask(x, 2, 2), h.Ask(x, 0, 2), h.Ask(x, 2, -1), h.Ask(x, 0, 3), h.Close(x, 1), h.Close(x, 2), h.Ask(x, 2, 2), h.Open(x, 1), h.Ask(x, 0, 0), h.Close(x, 0), h.Close(x, 1))
			want := answers(fine(1), fine(2), fine(18), fine(18), noKey, noKey, noKey, failed(1), fine(0), isShut, isShut, fine(5), fine(0), failed(1))
			if !slices.Equal(got, want) {
				t.Error(got)
			}
			looks(3, noScope)
		}})
	}
}

// a number that is none takes no step; one that is not ready one step
func TestStepsToAScope(t *testing.T) {
	for _, n := range append(strange(), 1, 49) {
		w := turn.New(nil)
		trial.Calls(w, scripts(script(ask(n, 0), open(n), shut(n))), does(made(t, w, example())))
		var want []api.Step
		if n == 1 || n == 49 {
			want = times(3, trial.Step(0, 1+n, api.StepLoad, 0, 0))
		}
		if !slices.Equal(w.Trace(), want) {
			t.Error(n, w.Trace())
		}
	}
}

// down to the last Level, where an Open is an ErrBig; and to the last number
func TestOpen(t *testing.T) {
	for _, w := range []*turn.World{turn.New(nil), nil} {
		h := made(t, w, recipes(gives(7, 3), gives(0, 4)))
		w.Run([]func(*turn.Thread){func(x *turn.Thread) {
			for n := range api.MaxLevels - 1 {
				if a := h.Open(x, n); a != fine(n+1) {
					t.Error(n, a)
				}
			}
			last := api.MaxLevels - 1
			if got := answers(h.Open(x, last), h.Ask(x, last, 0), h.Ask(x, last-1, 0), h.Ask(x, last, 1), h.Open(x, last)); !slices.Equal(got, answers(big, fine(3), noKey, fine(4), big)) {
				t.Error(got)
			}
			for n := api.MaxLevels; n < api.MaxScopes; n++ {
				if a := h.Open(x, n%2); a != fine(n) || h.Ask(x, n, 1) != fine(4) {
					t.Error(n, a)
				}
			}
			if got := answers(h.Open(x, 0), h.Open(x, 49), h.Open(x, last), h.Open(x, 50), h.Close(x, 1), h.Open(x, 1), h.Open(x, 0), h.Close(x, 0), h.Open(x, 0)); !slices.Equal(got, answers(big, big, big, noScope, fine(0), isShut, big, fine(0), isShut)) {
				t.Error(got)
			}
		}})
	}
}

// W8a: a house of no world, and a free thread alone: it is answered as the steps say
func TestFreeThread(t *testing.T) {
	r, c := trial.Row(5), codes{}
	for _, id := range []int{0, 1, 7, 100, 255} {
		for range 100 {
			l := r.FlatRecipes(r.One(1, 3, 8, 40))
			do, x := does(made(t, nil, l)), turn.Free(id)
			calls := slices.Concat(r.TreeScripts(len(l), 3, 20)...)
			want := trial.Tree(l, scripts(calls)).Play(nil).Answers
			for i, a := range want[0] {
				if got := do(x, calls[i]); got != a {
					t.Fatalf("the thread %d, the call %d of %v, of %v: %v, not %v", id, i, calls, l, got, a)
				}
			}
			c.of(want)
		}
	}
	if c.least() < 50 {
		t.Errorf("the calls are too tame: %v", c)
	}
}

// a house embeds its root, whose methods are promoted: it finds scopes, which are those of its own calls
func TestPromoted(t *testing.T) {
	h, x := made(t, nil, example()), turn.Free(9)
	h.Open(x, 0)
	kid, e := h.At(x, 1)
	if e != api.OK || kid.Number() != 1 || h.Number() != 0 || kid.Ask(x, 2) != fine(18) {
		t.Fatal(kid, e)
	}
	if inner, e := kid.Open(x); e != api.OK || h.Ask(x, inner.Number(), 1) != fine(12) || h.Close(x, 1) != failed(1) || kid.Ask(x, 2) != isShut || inner.Close(x) != fine(0) {
		t.Error(inner, e)
	}
	if none, e := h.At(x, 3); none != nil || e != api.ErrHouseScope {
		t.Error(none, e)
	}
}
