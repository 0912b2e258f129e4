package scope_test

import (
	"math"
	"slices"
	"testing"

	"butler/api"
	"butler/cell"
	"butler/scope"
	"butler/trial"
	"butler/turn"
)

func gives(level, v int, needs ...int) api.Recipe {
	return api.Recipe{Level: level, Needs: needs, Value: v}
}

func failing(level, v int, needs ...int) api.Recipe {
	return api.Recipe{Level: level, Needs: needs, Value: v, Act: 1}
}

func panics(level, v int, needs ...int) api.Recipe {
	return api.Recipe{Level: level, Needs: needs, Value: v, Act: 2}
}

// ending is a recipe with another End.
func ending(r api.Recipe, end int) api.Recipe {
	r.End = end
	return r
}

func recipes(l ...api.Recipe) []api.Recipe { return l }

// example are those of the chapter's examples.
func example() []api.Recipe {
	return recipes(gives(0, 5), ending(gives(1, 7, 0), 1), gives(1, 1, 1, 0))
}

func ask(scope, key int) api.Call { return api.Call{Op: 1, A: scope, B: key} }
func open(scope int) api.Call     { return api.Call{Op: 2, A: scope} }
func shut(scope int) api.Call     { return api.Call{Op: 3, A: scope} }

// script is calls, one behind the other; scripts are those of several threads.
func script(l ...api.Call) []api.Call      { return l }
func scripts(l ...[]api.Call) [][]api.Call { return l }
func answers(l ...api.Answer) []api.Answer { return l }
func all(l ...[]api.Answer) [][]api.Answer { return l }
func times[T any](many int, l ...T) []T    { return slices.Repeat(l, many) }
func code(e api.Errno) api.Answer          { return answer(e, 0) }
func answer(e api.Errno, v int) api.Answer { return api.Answer{Code: e, Value: v} }
func fine(v int) api.Answer                { return answer(api.OK, v) }
func failed(v int) api.Answer              { return answer(api.ErrOnceFail, v) }
func panicked(v int) api.Answer            { return answer(api.ErrOncePanic, v) }
func ring(need int) api.Answer             { return answer(api.ErrBoxRing, need) }
func lacks(need int) api.Answer            { return answer(api.ErrBoxNeed, need) }

var (
	noKey   = code(api.ErrHouseKey)
	noScope = code(api.ErrHouseScope)
	isShut  = code(api.ErrScopeShut)
	big     = code(api.ErrBig)
	arg     = code(api.ErrArg)
	stuck   = code(api.ErrStuck)
	again   = code(api.ErrOnceAgain)
)

// threads is a schedule: places of who goes, each with how often it does.
func threads(placesAndTimes ...int) []int {
	var out []int
	for pair := range slices.Chunk(placesAndTimes, 2) {
		out = append(out, times(pair[1], pair[0])...)
	}
	return out
}

// does is one of a tree's own calls, of the scope that At tells.
func does(root *scope.Scope) func(t *turn.Thread, c api.Call) api.Answer {
	return func(t *turn.Thread, c api.Call) api.Answer {
		s, e := root.At(t, c.A)
		if e != api.OK {
			return code(e)
		}
		switch c.Op {
		case 1:
			return s.Ask(t, c.B)
		case 2:
			kid, e := s.Open(t)
			if e != api.OK {
				return code(e)
			}
			return fine(kid.Number())
		}
		return s.Close(t)
	}
}

// player is Play of these recipes.
func player(l []api.Recipe) trial.Player {
	return func(w *turn.World, scripts [][]api.Call) ([][]api.Answer, api.Errno) {
		return scope.Play(w, l, scripts)
	}
}

// plays carries a Play out that may not fail, and holds it against the model.
func plays(t *testing.T, schedule []int, l []api.Recipe, scripts [][]api.Call) trial.Told {
	t.Helper()
	got, e := player(l).Tell(schedule, scripts)
	if want := trial.Tree(l, scripts).Play(schedule); e != api.OK || !got.Same(want) {
		t.Fatalf("%v, %v of %v: error %d,\n%v\nis to be\n%v", schedule, scripts, l, e, got, want)
	}
	return got
}

// made is a root that may not fail.
func made(t *testing.T, w *turn.World, l []api.Recipe) *scope.Scope {
	t.Helper()
	s, e := scope.New(w, l)
	if e != api.OK || s == nil || s.Number() != 0 {
		t.Fatal(l, e)
	}
	return s
}

// by are the steps of a thread in a scope of that number, whose own cells begin at that one, and which has so many keys: the short names of which rows are made.
type by struct{ thread, number, at, keys int }

// root is the root of a tree, with so many keys.
func root(keys int) by { return by{0, 0, 51, keys} }

// kid is the scope that is made behind x.
func (x by) kid(number, keys int) by { return by{x.thread, number, x.at + 7*x.keys + 207, keys} }

// of is the same scope, for another thread.
func (x by) of(thread int) by { return by{thread, x.number, x.at, x.keys} }

func (x by) step(at, op, before, after int) []api.Step {
	return []api.Step{trial.Step(x.thread, at, op, before, after)}
}

func (x by) load(at, v int) []api.Step { return x.step(at, api.StepLoad, v, v) }

// misses: it finds that the scope is not ready.
func (x by) misses() []api.Step { return x.load(1+x.number, 0) }

// finds: it finds that the scope is ready.
func (x by) finds() []api.Step { return x.load(1+x.number, 1) }

// adds: it draws a number for a kid.
func (x by) adds(stood int) []api.Step { return x.step(0, api.StepAdd, stood, stood+1) }

// readies: it tells that a kid is ready.
func (x by) readies(n int) []api.Step { return x.step(1+n, api.StepStore, 0, 1) }

// loads: it finds that in the WORD of the scope's i-th key.
func (x by) loads(i, v int) []api.Step { return x.load(x.at+2*i, v) }

// takes: its Cas there is done; so it begins to build that key.
func (x by) takes(i, key int) []api.Step {
	return append(x.step(x.at+2*i, api.StepCas, 0, trial.Going(x.thread)), trial.Step(x.thread, -1, api.StepBuild, key, x.number))
}

// begins: it finds the key new, and begins to build it.
func (x by) begins(i, key int) []api.Step { return append(x.loads(i, 0), x.takes(i, key)...) }

// asks: it writes down which need the i-th key asks for, where that stood.
func (x by) asks(i, stood, need int) []api.Step {
	return x.step(x.at+2*x.keys+i, api.StepStore, stood, need+1)
}

// looks: it finds that in the WAITs of these keys, one behind the other.
func (x by) looks(keysAndWaits ...int) []api.Step {
	var out []api.Step
	for pair := range slices.Chunk(keysAndWaits, 2) {
		out = append(out, x.load(x.at+2*x.keys+pair[0], pair[1])...)
	}
	return out
}

// keeps: it keeps what the i-th key came to.
func (x by) keeps(i int, a api.Answer) []api.Step {
	return append(x.step(x.at+2*i+1, api.StepStore, 0, a.Value), x.step(x.at+2*i, api.StepStore, trial.Going(x.thread), trial.Done(a.Code))...)
}

// got: it finds that the i-th key is done, and its value.
func (x by) got(i int, a api.Answer) []api.Step {
	return append(x.loads(i, trial.Done(a.Code)), x.load(x.at+2*i+1, a.Value)...)
}

// wakes: it goes on behind its wait for the i-th key.
func (x by) wakes(i int) []api.Step { return x.step(x.at+2*i, api.StepWake, 0, 0) }

func (x by) gate() int { return x.at + 3*x.keys }

// sees: it finds that at the gate.
func (x by) sees(v int) []api.Step { return x.load(x.gate(), v) }

// turns: its Cas at the gate is done.
func (x by) turns(v, to int) []api.Step { return x.step(x.gate(), api.StepCas, v, to) }

func (x by) enters(v int) []api.Step { return append(x.sees(v), x.turns(v, v+2)...) }
func (x by) leaves(v int) []api.Step { return append(x.sees(v), x.turns(v, v-2)...) }

// shuts: it is the first one, and nobody is in.
func (x by) shuts() []api.Step { return steps(x.sees(0), x.turns(0, 1), x.sees(1)) }

// late: it is not the first one, and nobody is in.
func (x by) late() []api.Step { return times(2, x.sees(1)...) }

// pushes: on a stack that begins at that cell, with room for so many, it is the i-th push, without a pop ahead of it.
func (x by) pushes(at, many, i, v int) []api.Step {
	const one = 1 << 32
	next, head := (i+2)%(many+1), at+2*many+1
	return steps(
		x.load(at, one*i+i+1), x.load(at+1+2*i, next), x.step(at, api.StepCas, one*i+i+1, one*(i+1)+next), x.step(at+2+2*i, api.StepStore, 0, 1),
		x.step(head+1+2*i, api.StepStore, 0, v), x.load(head, one*i+i), x.step(head+2+2*i, api.StepStore, 0, i), x.step(head, api.StepCas, one*i+i, one*(i+1)+i+1))
}

// pops: likewise, where so many were pushed, and so many popped.
func (x by) pops(at, many, pushed, popped, v int) []api.Step {
	const one = 1 << 32
	i, changes, head := pushed-popped-1, one*(pushed+popped), at+2*many+1
	next := (i + 2) % (many + 1)
	return steps(
		x.load(head, changes+i+1), x.load(head+2+2*i, i), x.step(head, api.StepCas, changes+i+1, changes+one+i), x.load(head+1+2*i, v),
		x.step(at+2+2*i, api.StepCas, 1, 0), x.load(at, changes+next), x.step(at+1+2*i, api.StepStore, next, next), x.step(at, api.StepCas, changes+next, changes+one+i+1))
}

// empties: it finds that nothing is left there of so many.
func (x by) empties(at, many, pushed int) []api.Step { return x.load(at+2*many+1, 2*pushed<<32) }

func (x by) done() int { return x.at + 3*x.keys + 1 }
func (x by) kids() int { return x.at + 7*x.keys + 3 }

// puts: what was built is on the stack DONE, as the i-th one.
func (x by) puts(i, key int) []api.Step { return x.pushes(x.done(), x.keys, i, key) }

// closes: it takes a key from DONE, where so many were put and so many taken, and closes it.
func (x by) closes(put, taken, key int) []api.Step {
	return append(x.pops(x.done(), x.keys, put, taken, key), trial.Step(x.thread, -1, api.StepClose, key, x.number))
}

// noMore: DONE is empty.
func (x by) noMore(put int) []api.Step { return x.empties(x.done(), x.keys, put) }

// bears: it puts a kid's number on KIDS, as the i-th one.
func (x by) bears(i, n int) []api.Step { return x.pushes(x.kids(), api.MaxScopes, i, n) }

// takesKid: it takes a kid's number from KIDS.
func (x by) takesKid(put, taken, n int) []api.Step {
	return x.pops(x.kids(), api.MaxScopes, put, taken, n)
}

// noKids: KIDS is empty.
func (x by) noKids(put int) []api.Step { return x.empties(x.kids(), api.MaxScopes, put) }

func (x by) result() int { return x.at + 7*x.keys + 205 }

// ends: it tells what closing the scope came to.
func (x by) ends(a api.Answer) []api.Step {
	return append(x.step(x.result(), api.StepStore, 0, a.Value), x.step(x.result()+1, api.StepStore, 0, 1+int(a.Code))...)
}

// waits: it finds that the scope is not closed yet.
func (x by) waits() []api.Step { return x.load(x.result()+1, 0) }

// wakesUp: it goes on behind its wait for that.
func (x by) wakesUp() []api.Step { return x.step(x.result()+1, api.StepWake, 0, 0) }

// reads: it finds what closing the scope came to.
func (x by) reads(a api.Answer) []api.Step {
	return append(x.load(x.result()+1, 1+int(a.Code)), x.load(x.result(), a.Value)...)
}

var steps = slices.Concat[[]api.Step]

// P14.1

// New makes MANY, READY of each number, and the root's own cells: none for keys of other Levels
func TestNew(t *testing.T) {
	for _, many := range []int{0, 1, 2, 7, 99, api.MaxKeys} {
		for _, ahead := range []int{0, 1, 4} {
			w := turn.New(nil)
			for range ahead {
				cell.New(w, 9)
			}
			l := times(many, gives(0, 7))
			for len(l) < min(many+3, api.MaxKeys) {
				l = append(l, gives(1, 7))
			}
			s := made(t, w, l)
			if behind := w.Cell(); behind != ahead+51+7*many+207 {
				t.Errorf("%d keys behind %d cells take %d", many, ahead, behind-ahead)
			}
			x := root(many)
			want := steps(x.finds(), x.shuts(), x.noKids(0), x.noMore(0), x.ends(fine(0)))
			calls := script(shut(0))
			if many > 0 {
				want = append(steps(x.finds(), x.enters(0), x.begins(many-1, many-1), x.puts(0, many-1), x.keeps(many-1, fine(7)), x.leaves(2)),
					steps(x.finds(), x.shuts(), x.noKids(0), x.closes(1, 0, many-1), x.noMore(1), x.ends(fine(0)))...)
				calls = script(ask(0, many-1), shut(0))
			}
			for i := range want {
				if want[i].Cell >= 0 {
					want[i].Cell += ahead
				}
			}
			trial.Calls(w, scripts(calls), does(s))
			if !slices.Equal(w.Trace(), want) {
				t.Errorf("%d keys behind %d cells: %v\nis to be\n%v", many, ahead, w.Trace(), want)
			}
		}
	}
}

// what stands in all cells at first that no ordinary calls come by: the READY of each number, and all that KIDS has
func TestCellsAtFirst(t *testing.T) {
	w := turn.New(nil)
	s := made(t, w, recipes(gives(0, 1)))
	var calls []api.Call
	var want []api.Step
	for n := range api.MaxScopes {
		calls = append(calls, open(0))
		want = append(want, by{number: n}.misses()...)
	}
	want[0] = root(1).finds()[0]
	w.Run([]func(*turn.Thread){func(x *turn.Thread) {
		for n := range api.MaxScopes {
			s.At(x, n)
		}
	}})
	if !slices.Equal(w.Trace(), want) {
		t.Error(w.Trace())
	}
	w = turn.New(nil)
	got := trial.Calls(w, scripts(calls), does(made(t, w, recipes(gives(1, 1)))))
	x := root(0)
	want = nil
	for i := range api.MaxScopes - 1 {
		want = append(want, steps(x.finds(), x.enters(0), x.adds(1+i), x.bears(i, 1+i), x.readies(1+i), x.leaves(2))...)
	}
	want = append(want, steps(x.finds(), x.enters(0), x.adds(50), x.leaves(2))...)
	if !slices.Equal(w.Trace(), want) || got[0][48] != fine(49) || got[0][49] != big {
		t.Error(got, w.Trace())
	}
}

// of recipes that are not right there is no tree, and no cells
func TestNewRefuses(t *testing.T) {
	for i, x := range trial.WrongRecipes() {
		w := turn.New(nil)
		if s, e := scope.New(w, x.Recipes); s != nil || e != x.Error || w.Cell() != 0 {
			t.Errorf("%d: %v, error %d", i, s, e)
		}
		if s, e := scope.New(nil, x.Recipes); s != nil || e != x.Error {
			t.Errorf("%d, of no world: %v, error %d", i, s, e)
		}
	}
	for _, l := range [][]api.Recipe{
		recipes(gives(0, 1000)), recipes(gives(7, -1000, 0)), times(api.MaxKeys, gives(3, 1, 99)), recipes(gives(1, 0), gives(1, 0, make([]int, api.MaxNeeds)...)), recipes(ending(panics(7, 0), 2)),
	} {
		made(t, turn.New(nil), l)
	}
}

// by hand: what one thread does alone
func TestAlone(t *testing.T) {
	x := root(1)
	k := x.kid(1, 2)
	z := root(0)
	for _, row := range []struct {
		name    string
		l       []api.Recipe
		calls   []api.Call
		want    []api.Step
		answers []api.Answer
	}{
		{"the chapter's second example", example(),
			script(ask(0, 0), ask(0, 1), open(0), ask(1, 2), ask(1, 1), shut(1), ask(1, 1), shut(0), ask(0, 0), shut(0)),
			steps(
				x.finds(), x.enters(0), x.begins(0, 0), x.puts(0, 0), x.keeps(0, fine(5)), x.leaves(2),
				x.finds(),
				x.finds(), x.enters(0), x.adds(1), x.bears(0, 1), x.readies(1), x.leaves(2),
				k.finds(), k.enters(0), k.begins(1, 2), k.asks(1, 0, 0), k.looks(0, 0), k.begins(0, 1), x.got(0, fine(5)), k.puts(0, 1), k.keeps(0, fine(12)),
				x.got(0, fine(5)), k.puts(1, 2), k.keeps(1, fine(18)), k.leaves(2),
				k.finds(), k.enters(0), k.got(0, fine(12)), k.leaves(2),
				k.finds(), k.shuts(), k.noKids(0), k.closes(2, 0, 2), k.closes(2, 1, 1), k.noMore(2), k.ends(failed(1)),
				k.finds(), k.sees(1),
				x.finds(), x.shuts(), x.takesKid(1, 0, 1), k.late(), k.reads(failed(1)), x.noKids(1), x.closes(1, 0, 0), x.noMore(1), x.ends(fine(0)),
				x.finds(), x.sees(1),
				x.finds(), x.late(), x.reads(fine(0))),
			answers(fine(5), noKey, fine(1), fine(18), fine(12), failed(1), isShut, fine(0), isShut, fine(0))},
		{"a key of an ancestor is built there, by way of its gate alone whom one asks", recipes(gives(0, 5), gives(1, 1)),
			script(open(0), ask(1, 0), ask(0, 0)),
			steps(
				x.finds(), x.enters(0), x.adds(1), x.bears(0, 1), x.readies(1), x.leaves(2),
				x.kid(1, 1).finds(), x.kid(1, 1).enters(0), x.begins(0, 0), x.puts(0, 0), x.keeps(0, fine(5)), x.kid(1, 1).leaves(2),
				x.finds(), x.enters(0), x.got(0, fine(5)), x.leaves(2)),
			answers(fine(1), fine(5), fine(5))},
		{"what fails or panics is kept, and is not put on DONE", recipes(failing(0, 7)), script(ask(0, 0), ask(0, 0), shut(0)),
			steps(
				x.finds(), x.enters(0), x.begins(0, 0), x.keeps(0, failed(7)), x.leaves(2),
				x.finds(), x.enters(0), x.got(0, failed(7)), x.leaves(2),
				x.finds(), x.shuts(), x.noKids(0), x.noMore(0), x.ends(fine(0))),
			answers(failed(7), failed(7), fine(0))},
		{"a panic", recipes(panics(0, -7)), script(ask(0, 0)),
			steps(x.finds(), x.enters(0), x.begins(0, 0), x.keeps(0, panicked(-7)), x.leaves(2)), answers(panicked(-7))},
		{"a key that needs itself", recipes(gives(0, 7, 0)), script(ask(0, 0)),
			steps(x.finds(), x.enters(0), x.begins(0, 0), x.asks(0, 0, 0), x.keeps(0, ring(0)), x.leaves(2)), answers(ring(0))},
		{"a scope that there is not yet; numbers beyond all; keys beyond all", recipes(gives(0, 7)),
			script(ask(1, 0), open(49), shut(50), open(-1), ask(0, 1), ask(0, -1), ask(math.MinInt, 0), shut(1)),
			steps(by{number: 1}.misses(), by{number: 49}.misses(), x.finds(), x.finds(), by{number: 1}.misses()),
			answers(noScope, noScope, noScope, noScope, noKey, noKey, noScope, noScope)},
		{"open where it is shut", recipes(gives(1, 7)), script(shut(0), open(0)),
			steps(z.finds(), z.shuts(), z.noKids(0), z.noMore(0), z.ends(fine(0)), z.finds(), z.sees(1)), answers(fine(0), isShut)},
		{"a panic at the end", recipes(ending(gives(0, 7), 2)), script(ask(0, 0), shut(0), shut(0)),
			steps(
				x.finds(), x.enters(0), x.begins(0, 0), x.puts(0, 0), x.keeps(0, fine(7)), x.leaves(2),
				x.finds(), x.shuts(), x.noKids(0), x.closes(1, 0, 0), x.noMore(1), x.ends(panicked(0)),
				x.finds(), x.late(), x.reads(panicked(0))),
			answers(fine(7), panicked(0), panicked(0))},
	} {
		w := turn.New(nil)
		got := trial.Calls(w, scripts(row.calls), does(made(t, w, row.l)))
		if !slices.Equal(w.Trace(), row.want) || !slices.Equal(got[0], row.answers) {
			t.Errorf("%s: %v\n%v\nis to be\n%v", row.name, got, w.Trace(), row.want)
		}
	}
}

// by hand: threads that come at one time
func TestTogether(t *testing.T) {
	a, b := root(1), root(1).of(1)
	x, y := root(0), root(0).of(1)
	c, k := root(1).of(2), root(1).kid(1, 0)
	for _, row := range []struct {
		name     string
		l        []api.Recipe
		schedule []int
		scripts  [][]api.Call
		want     []api.Step
		answers  [][]api.Answer
	}{
		{"two close: the second one waits for the first one's end", recipes(gives(1, 1)), threads(0, 5, 1, 4, 0, 9), scripts(script(shut(0)), script(shut(0))),
			steps(x.finds(), x.shuts(), x.noKids(0), y.finds(), y.late(), y.waits(), x.noMore(0), x.ends(fine(0)), y.wakesUp(), y.reads(fine(0))),
			all(answers(fine(0)), answers(fine(0)))},
		{"two close: the second one comes to the gate when the first one has looked", recipes(gives(1, 1)), threads(0, 2, 1, 2, 0, 1, 1, 9), scripts(script(shut(0)), script(shut(0))),
			steps(x.finds(), x.sees(0), y.finds(), y.sees(0), x.turns(0, 1), y.step(y.gate(), api.StepCas, 1, 1), y.late(), y.waits(), x.sees(1), x.noKids(0), x.noMore(0), x.ends(fine(0)), y.wakesUp(), y.reads(fine(0))),
			all(answers(fine(0)), answers(fine(0)))},
		{"who closes waits for who is in", recipes(failing(0, 3)), threads(0, 4, 1, 4), scripts(script(ask(0, 0)), script(shut(0))),
			steps(a.finds(), a.enters(0), a.loads(0, 0), b.finds(), b.sees(2), b.turns(2, 3), b.sees(3),
				a.takes(0, 0), a.keeps(0, failed(3)), a.leaves(3), b.step(b.gate(), api.StepWake, 0, 0), b.sees(1), b.noKids(0), b.noMore(0), b.ends(fine(0))),
			all(answers(failed(3)), answers(fine(0)))},
		{"a scope is made, and not ready yet", recipes(gives(1, 1)), threads(0, 12, 1, 1, 0, 1, 1, 1, 0, 9), scripts(script(open(0)), script(open(1), open(1))),
			steps(x.finds(), x.enters(0), x.adds(1), x.bears(0, 1), y.kid(1, 1).misses(), x.readies(1), y.kid(1, 1).finds(), x.leaves(2),
				y.kid(1, 1).enters(0), y.adds(2), y.kid(1, 1).bears(0, 2), y.readies(2), y.kid(1, 1).leaves(2)),
			all(answers(fine(1)), answers(noScope, fine(2)))},
		{"in a kid one waits for who builds in the root; who closes the root waits for both", recipes(gives(0, 3)),
			threads(0, 20, 1, 4, 1, 4, 0, 12, 1, 13), scripts(script(open(0), ask(0, 0)), script(ask(1, 0)), script(shut(0))),
			steps(a.finds(), a.enters(0), a.adds(1), a.bears(0, 1), a.readies(1), a.leaves(2),
				a.finds(), a.enters(0), a.begins(0, 0),
				k.of(1).finds(), k.of(1).enters(0), b.loads(0, trial.Going(0)),
				c.finds(), c.sees(2), c.turns(2, 3), c.sees(3),
				a.puts(0, 0), a.keeps(0, fine(3)), a.leaves(3),
				c.step(c.gate(), api.StepWake, 0, 0), c.sees(1), c.takesKid(1, 0, 1), k.of(2).sees(2), k.of(2).turns(2, 3), k.of(2).sees(3),
				b.wakes(0), b.got(0, fine(3)), k.of(1).leaves(3),
				k.of(2).step(k.gate(), api.StepWake, 0, 0), k.of(2).sees(1), k.of(2).noKids(0), k.of(2).noMore(0), k.of(2).ends(fine(0)),
				c.noKids(1), c.closes(1, 0, 0), c.noMore(1), c.ends(fine(0))),
			all(answers(fine(1), fine(3)), answers(fine(3)), answers(fine(0)))},
	} {
		w := turn.New(row.schedule)
		got := trial.Calls(w, row.scripts, does(made(t, w, row.l)))
		if !slices.Equal(w.Trace(), row.want) || !trial.Same(got, row.answers) {
			t.Errorf("%s: %v\n%v\nis to be\n%v", row.name, got, w.Trace(), row.want)
		}
	}
}

// in a world that was stuck already nobody waits: neither for a build, nor for who is in, nor for who closes; what was given up is not kept
func TestInAStuckWorld(t *testing.T) {
	w := turn.New(slices.Concat([]int{0, 1}, threads(0, 6, 1, 80)))
	s, never := made(t, w, recipes(gives(0, 5), gives(0, 7, 0))), cell.New(w, 0)
	do := does(s)
	got := trial.Calls(w, scripts(script(ask(0, 0)), script(ask(0, 1), ask(0, 1), ask(0, 0), shut(0), shut(0), open(0))), func(x *turn.Thread, c api.Call) api.Answer {
		if !w.Stuck() && never.Until(x, 0) {
			t.Error("it was not stuck")
		}
		return do(x, c)
	})
	x, y := root(2), root(2).of(1)
	waits := x.at + 7*2 + 207
	want := steps(
		x.load(waits, 0), y.load(waits, 0), []api.Step{trial.Step(-1, -1, api.StepStuck, 0, 0)},
		x.finds(), x.enters(0), x.begins(0, 0),
		y.finds(), y.enters(2), y.begins(1, 1), y.asks(1, 0, 0), y.looks(0, 0), y.loads(0, trial.Going(0)), y.leaves(4),
		y.finds(), y.enters(2), y.loads(1, trial.Going(1)), y.leaves(4),
		y.finds(), y.enters(2), y.loads(0, trial.Going(0)), y.leaves(4),
		y.finds(), y.sees(2), y.turns(2, 3), y.sees(3),
		y.finds(), y.sees(3), y.sees(3),
		y.finds(), y.sees(3),
		x.puts(0, 0), x.keeps(0, fine(5)), x.leaves(3))
	if !slices.Equal(w.Trace(), want) || !trial.Same(got, all(answers(fine(5)), answers(stuck, again, stuck, stuck, stuck, isShut))) {
		t.Errorf("%v\n%v\nis to be\n%v", got, w.Trace(), want)
	}
}

// likewise who waits for the end of another one's closing
func TestStuckAtTheEnd(t *testing.T) {
	w := turn.New(slices.Concat([]int{0, 1}, threads(0, 6, 1, 80)))
	s, never := made(t, w, recipes(gives(1, 5))), cell.New(w, 0)
	do := does(s)
	got := trial.Calls(w, scripts(script(shut(0)), script(shut(0))), func(x *turn.Thread, c api.Call) api.Answer {
		never.Until(x, 0)
		return do(x, c)
	})
	x, y := root(0), root(0).of(1)
	want := steps(
		x.load(x.at+207, 0), y.load(x.at+207, 0), []api.Step{trial.Step(-1, -1, api.StepStuck, 0, 0)},
		x.finds(), x.shuts(), x.noKids(0), y.finds(), y.late(), y.waits(), x.noMore(0), x.ends(fine(0)))
	if !slices.Equal(w.Trace(), want) || !trial.Same(got, all(answers(fine(0)), answers(stuck))) {
		t.Errorf("%v\n%v\nis to be\n%v", got, w.Trace(), want)
	}
}

// a kid whose closing is stuck keeps nobody from closing the others, and what was built
func TestStuckKid(t *testing.T) {
	w := turn.New(threads(0, 46, 0, 3, 1, 200))
	s, never := made(t, w, recipes(gives(0, 5), gives(1, 6))), cell.New(w, 0)
	var first, second *scope.Scope
	var asked api.Answer
	var told []api.Answer
	w.Run([]func(*turn.Thread){
		func(x *turn.Thread) {
			never.Until(x, 0)
			asked = first.Ask(x, 1)
		},
		func(x *turn.Thread) {
			first, _ = s.Open(x)
			second, _ = s.Open(x)
			s.Ask(x, 0)
			never.Until(x, 0)
			told = answers(s.Close(x), second.Close(x), first.Close(x), s.Ask(x, 0))
		},
	})
	var closed []api.Step
	for _, x := range w.Trace() {
		if x.Op == api.StepClose {
			closed = append(closed, x)
		}
	}
	if !w.Stuck() || asked != fine(6) || !slices.Equal(told, answers(fine(0), fine(0), stuck, isShut)) || !slices.Equal(closed, []api.Step{trial.Step(1, -1, api.StepClose, 0, 0)}) {
		t.Error(asked, told, w.Trace())
	}
}

// a row of scopes down to the last Level, each with keys of its own, which need those of all Levels above
func TestLevels(t *testing.T) {
	var l []api.Recipe
	var calls []api.Call
	var want []api.Answer
	for level := range api.MaxLevels {
		for i := range 2 {
			r := gives(level, 1)
			for need := range 2*level + i {
				r.Needs = append(r.Needs, need)
			}
			l = append(l, r)
		}
	}
	for level := range api.MaxLevels {
		for key := range l {
			x := fine(1 << key)
			if key >= 2*level+2 {
				x = noKey
			}
			calls, want = append(calls, ask(level, key)), append(want, x)
		}
		x := fine(level + 1)
		if level == api.MaxLevels-1 {
			x = big
		}
		calls, want = append(calls, open(level)), append(want, x)
	}
	w := turn.New(nil)
	if got := trial.Calls(w, scripts(calls), does(made(t, w, l))); !slices.Equal(got[0], want) {
		t.Error(got)
	}
	plays(t, nil, l, scripts(script(open(0), open(1), open(2), open(3), open(4), open(5), open(6), open(7), ask(7, 15), ask(6, 14), ask(3, 0), shut(5), ask(7, 0), ask(6, 1), shut(0))))
}

// Open at the last Level: it enters, and leaves, and draws no number
func TestLastLevel(t *testing.T) {
	w := turn.New(nil)
	s := made(t, w, recipes(gives(7, 1)))
	x := root(0)
	var want []api.Step
	var got []api.Errno
	w.Run([]func(*turn.Thread){func(y *turn.Thread) {
		for range 9 {
			kid, e := s.Open(y)
			got = append(got, e)
			if e == api.OK {
				s = kid
			} else if kid != nil {
				t.Error("a kid with an error")
			}
		}
		got = append(got, s.Ask(y, 0).Code)
		s.Close(y)
		_, e := s.Open(y)
		got = append(got, e)
	}})
	for n := range 7 {
		want = append(want, steps(x.enters(0), x.adds(n+1), x.bears(0, n+1), x.readies(n+1), x.leaves(2))...)
		x = x.kid(n+1, trial.Number(n == 6))
	}
	want = append(want, steps(x.enters(0), x.leaves(2), x.enters(0), x.leaves(2))...)
	want = append(want, steps(x.enters(0), x.begins(0, 0), x.puts(0, 0), x.keeps(0, fine(1)), x.leaves(2))...)
	want = append(want, steps(x.shuts(), x.noKids(0), x.closes(1, 0, 0), x.noMore(1), x.ends(fine(0)), x.sees(1))...)
	codes := []api.Errno{0, 0, 0, 0, 0, 0, 0, api.ErrBig, api.ErrBig, 0, api.ErrScopeShut}
	if !slices.Equal(w.Trace(), want) || !slices.Equal(got, codes) || s.Number() != 7 {
		t.Errorf("%v\n%v\nis to be\n%v", got, w.Trace(), want)
	}
}

// any scope of a tree tells all others; no scope comes with an error
func TestAt(t *testing.T) {
	w := turn.New(nil)
	s := made(t, w, recipes(gives(0, 1)))
	w.Run([]func(*turn.Thread){func(x *turn.Thread) {
		a, _ := s.Open(x)
		b, _ := a.Open(x)
		c, _ := s.Open(x)
		all := []*scope.Scope{s, a, b, c}
		c.Close(x)
		for _, from := range all {
			for n, want := range all {
				if got, e := from.At(x, n); got != want || e != api.OK || got.Number() != n {
					t.Error(from.Number(), n, got, e)
				}
			}
			for _, n := range []int{4, 49, 50, 51, -1, -4, 1 << 32, math.MaxInt, math.MinInt} {
				before := len(w.Trace())
				if got, e := from.At(x, n); got != nil || e != api.ErrHouseScope {
					t.Error(from.Number(), n, got, e)
				}
				if many := len(w.Trace()) - before; many != trial.Number(n == 4 || n == 49) {
					t.Errorf("At(%d): %d steps", n, many)
				}
			}
		}
		s.Close(x)
		if kid, e := s.Open(x); kid != nil || e != api.ErrScopeShut {
			t.Error(kid, e)
		}
	}})
}

// a key lives in each scope of its Level; seen from a scope it is that of its own line
func TestHome(t *testing.T) {
	l := recipes(gives(0, 1), gives(1, 10, 0), gives(2, 100, 1, 0), failing(1, 5), gives(2, 7, 3))
	told := plays(t, nil, l, scripts(script(
		open(0), open(0), open(1), open(2), open(2), // 1 and 2 in 0, 3 in 1, 4 and 5 in 2
		ask(3, 2), ask(4, 2), ask(5, 2), ask(1, 1), ask(2, 1), ask(5, 4), ask(4, 3), ask(2, 2), ask(0, 1), ask(3, 0))))
	if !slices.Equal(told.Answers[0][5:], answers(fine(112), fine(112), fine(112), fine(11), fine(11), lacks(3), failed(5), noKey, noKey, fine(1))) {
		t.Error(told.Answers)
	}
	var built [][2]int
	for _, x := range told.Trace {
		if x.Op == api.StepBuild {
			built = append(built, [2]int{x.Old, x.New})
		}
	}
	if !slices.Equal(built, [][2]int{{2, 3}, {1, 1}, {0, 0}, {2, 4}, {1, 2}, {2, 5}, {4, 5}, {3, 2}}) {
		t.Error(built)
	}
}
