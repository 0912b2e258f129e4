package box_test

import (
	"math"
	"reflect"
	"slices"
	"testing"

	"butler/api"
	"butler/box"
	"butler/cell"
	"butler/play"
	"butler/recipe"
	"butler/trial"
	"butler/turn"
)

func gives(v int, needs ...int) api.Recipe   { return api.Recipe{Needs: needs, Value: v} }
func failing(v int, needs ...int) api.Recipe { return api.Recipe{Needs: needs, Value: v, Act: 1} }
func panics(v int, needs ...int) api.Recipe  { return api.Recipe{Needs: needs, Value: v, Act: 2} }

func recipes(l ...api.Recipe) []api.Recipe { return l }

// gets are calls, one behind the other, of these keys.
func gets(keys ...int) []api.Call {
	var out []api.Call
	for _, key := range keys {
		out = append(out, api.Call{Op: 1, A: key})
	}
	return out
}

func answer(code api.Errno, v int) api.Answer { return api.Answer{Code: code, Value: v} }
func fine(v int) api.Answer                   { return answer(api.OK, v) }
func failed(v int) api.Answer                 { return answer(api.ErrOnceFail, v) }
func panicked(v int) api.Answer               { return answer(api.ErrOncePanic, v) }
func ring(need int) api.Answer                { return answer(api.ErrBoxRing, need) }
func lacks(need int) api.Answer               { return answer(api.ErrBoxNeed, need) }

var (
	none  = answer(api.ErrHouseKey, 0)
	arg   = answer(api.ErrArg, 0)
	stuck = answer(api.ErrStuck, 0)
	again = answer(api.ErrOnceAgain, 0)
)

// times is a list, so many times one behind the other.
func times[T any](many int, l ...T) []T { return slices.Repeat(l, many) }

// does is one of boxes' own calls.
func does(b *box.Boxes) func(t *turn.Thread, c api.Call) api.Answer {
	return func(t *turn.Thread, c api.Call) api.Answer { return b.Get(t, c.A) }
}

// player is Play of these recipes.
func player(l []api.Recipe) trial.Player {
	return func(w *turn.World, scripts [][]api.Call) ([][]api.Answer, api.Errno) {
		return box.Play(w, l, scripts)
	}
}

// plays carries a Play out that may not fail, and holds it against the model.
func plays(t *testing.T, schedule []int, l []api.Recipe, scripts [][]api.Call) trial.Told {
	t.Helper()
	got, e := player(l).Tell(schedule, scripts)
	if want := model(l, scripts).Play(schedule); e != api.OK || !got.Same(want) {
		t.Fatalf("%v, %v of %v: error %d,\n%v\nis to be\n%v", schedule, scripts, l, e, got, want)
	}
	return got
}

// made is boxes that may not fail.
func made(t *testing.T, w *turn.World, l []api.Recipe) *box.Boxes {
	t.Helper()
	b, e := box.New(w, l)
	if e != api.OK || b == nil {
		t.Fatal(l, e)
	}
	return b
}

// by are the steps of a thread, with boxes of so many keys: the short names of which rows are made.
type by struct{ thread, keys int }

func (x by) step(at, op, before, after int) []api.Step {
	return []api.Step{trial.Step(x.thread, at, op, before, after)}
}

// loads: it finds that in a key's WORD.
func (x by) loads(key, v int) []api.Step { return x.step(2*key, api.StepLoad, v, v) }

// tries: its Cas on a key's WORD finds that.
func (x by) tries(key, v int) []api.Step { return x.step(2*key, api.StepCas, v, v) }

// takes: its Cas is done; so it begins to build the key.
func (x by) takes(key int) []api.Step {
	return append(x.step(2*key, api.StepCas, 0, trial.Going(x.thread)), trial.Step(x.thread, -1, api.StepBuild, key, 0))
}

// begins: it finds the key new, and begins to build it.
func (x by) begins(key int) []api.Step { return append(x.loads(key, 0), x.takes(key)...) }

// asks: it writes down which need the key asks for, where that stood.
func (x by) asks(key, stood, need int) []api.Step {
	return x.step(2*x.keys+key, api.StepStore, stood, need+1)
}

// looks: it finds that in the WAITs of these keys, one behind the other.
func (x by) looks(keysAndWaits ...int) []api.Step {
	var out []api.Step
	for pair := range slices.Chunk(keysAndWaits, 2) {
		out = append(out, x.step(2*x.keys+pair[0], api.StepLoad, pair[1], pair[1])...)
	}
	return out
}

// stores: it puts a key's value there.
func (x by) stores(key, v int) []api.Step { return x.step(2*key+1, api.StepStore, 0, v) }

// ends: it tells that a key is done.
func (x by) ends(key int, code api.Errno) []api.Step {
	return x.step(2*key, api.StepStore, trial.Going(x.thread), trial.Done(code))
}

// keeps: both of these.
func (x by) keeps(key int, a api.Answer) []api.Step {
	return append(x.stores(key, a.Value), x.ends(key, a.Code)...)
}

// reads: it finds a key's value.
func (x by) reads(key, v int) []api.Step { return x.step(2*key+1, api.StepLoad, v, v) }

// finds: it finds that a key is done, and its value.
func (x by) finds(key int, a api.Answer) []api.Step {
	return append(x.loads(key, trial.Done(a.Code)), x.reads(key, a.Value)...)
}

// wakes: it goes on behind its wait for a key.
func (x by) wakes(key int) []api.Step { return x.step(2*key, api.StepWake, 0, 0) }

var steps = slices.Concat[[]api.Step]

// P13.1

// New makes of each key, rising, WORD and VALUE, then those of a chain of as many keys, in all of which 0 stands
func TestNew(t *testing.T) {
	for _, many := range []int{1, 2, 3, 7, 99, api.MaxKeys} {
		for _, ahead := range []int{0, 1, 4} {
			w := turn.New(nil)
			for range ahead {
				cell.New(w, 9)
			}
			var l []api.Recipe
			var script []api.Call
			var want []api.Step
			answers := []api.Answer{}
			x := by{0, many}
			for key := range many {
				l = append(l, gives(7, key))
				script = append(script, gets(key)...)
				want = append(want, steps(x.begins(key), x.asks(key, 0, key), x.keeps(key, ring(key)))...)
				answers = append(answers, ring(key))
			}
			b := made(t, w, l)
			if behind := w.Cell(); behind != ahead+3*many {
				t.Errorf("%d keys behind %d cells take %d", many, ahead, behind-ahead)
			}
			for i := range want {
				if want[i].Cell >= 0 {
					want[i].Cell += ahead
				}
			}
			got := trial.Calls(w, [][]api.Call{script}, does(b))
			if !slices.Equal(w.Trace(), want) || !slices.Equal(got[0], answers) {
				t.Errorf("%d keys behind %d cells: %v, %v", many, ahead, got, w.Trace())
			}
		}
	}
}

// of recipes that are not right there are no boxes, and no cells
func TestNewRefuses(t *testing.T) {
	for i, x := range trial.WrongRecipes() {
		w := turn.New(nil)
		if b, e := box.New(w, x.Recipes); b != nil || e != x.Error || w.Cell() != 0 {
			t.Errorf("%d: %v, error %d", i, b, e)
		}
		if b, e := box.New(nil, x.Recipes); b != nil || e != x.Error {
			t.Errorf("%d, of no world: %v, error %d", i, b, e)
		}
	}
	for i, l := range [][]api.Recipe{
		recipes(gives(1000)), recipes(gives(-1000, 0)), recipes(gives(0), gives(1, make([]int, api.MaxNeeds)...)), times(api.MaxKeys, gives(1, 99)),
		recipes(api.Recipe{Level: 7, End: 2, Act: 2}), recipes(api.Recipe{Level: 1}, api.Recipe{Level: 1, Needs: []int{0, 1}}),
	} {
		w := turn.New(nil)
		if b, e := box.New(w, l); b == nil || e != api.OK || w.Cell() != 3*len(l) {
			t.Errorf("%d: %v, error %d", i, b, e)
		}
	}
}

// the boxes of a world know nothing of each other
func TestTwo(t *testing.T) {
	w := turn.New(nil)
	a, b := made(t, w, recipes(gives(5), gives(7, 0))), made(t, w, recipes(failing(6), gives(8, 0), gives(1, 2)))
	var got []api.Answer
	w.Run([]func(*turn.Thread){func(x *turn.Thread) {
		for key := range 3 {
			got = append(got, a.Get(x, key), b.Get(x, key), a.Get(x, key))
		}
	}})
	want := []api.Answer{fine(5), failed(6), fine(5), fine(12), lacks(0), fine(12), none, ring(2), none}
	if !slices.Equal(got, want) {
		t.Error(got)
	}
}

// what is no key: no step, whatever is built already
func TestNoKey(t *testing.T) {
	for _, many := range []int{1, 2, 3, api.MaxKeys} {
		strange := []int{many, many + 1, -1, -many, -many - 1, 1 << 8, 1 << 16, 1 << 32, 1<<32 + 1, -1 << 32, math.MaxInt, math.MinInt, math.MinInt + 1}
		script := append(append(gets(strange...), gets(0)...), gets(strange...)...)
		w := turn.New(nil)
		got := trial.Calls(w, [][]api.Call{script}, does(made(t, w, times(many, gives(3)))))
		x := by{0, many}
		want := append(append(times(len(strange), none), fine(3)), times(len(strange), none)...)
		if !slices.Equal(got[0], want) || !slices.Equal(w.Trace(), steps(x.begins(0), x.keeps(0, fine(3)))) {
			t.Errorf("%d keys: %v, %v", many, got, w.Trace())
		}
	}
}

// by hand: what one thread does alone
func TestAlone(t *testing.T) {
	a, b, c, d := by{0, 1}, by{0, 2}, by{0, 3}, by{0, 4}
	for i, x := range []struct {
		l       []api.Recipe
		keys    []int
		want    []api.Step
		answers []api.Answer
	}{
		// no needs, each act; and once more
		{recipes(gives(7)), []int{0, 0}, steps(a.begins(0), a.keeps(0, fine(7)), a.finds(0, fine(7))), times(2, fine(7))},
		{recipes(failing(7)), []int{0, 0}, steps(a.begins(0), a.keeps(0, failed(7)), a.finds(0, failed(7))), times(2, failed(7))},
		{recipes(panics(7)), []int{0, 0}, steps(a.begins(0), a.keeps(0, panicked(7)), a.finds(0, panicked(7))), times(2, panicked(7))},
		// values below 0 and at 0: what is given is modulo, what fails or panics is not
		{recipes(gives(-1)), []int{0}, steps(a.begins(0), a.keeps(0, fine(1000002))), times(1, fine(1000002))},
		{recipes(gives(0)), []int{0}, steps(a.begins(0), a.keeps(0, fine(0))), times(1, fine(0))},
		{recipes(failing(-1000)), []int{0, 0}, steps(a.begins(0), a.keeps(0, failed(-1000)), a.finds(0, failed(-1000))), times(2, failed(-1000))},
		{recipes(panics(0)), []int{0, 0}, steps(a.begins(0), a.keeps(0, panicked(0)), a.finds(0, panicked(0))), times(2, panicked(0))},
		// a key that needs itself, whatever its act, and whatever else it needs
		{recipes(panics(4, 0)), []int{0, 0}, steps(a.begins(0), a.asks(0, 0, 0), a.keeps(0, ring(0)), a.finds(0, ring(0))), times(2, ring(0))},
		{recipes(gives(1), gives(4, 0, 1, 0)), []int{1}, steps(
			b.begins(1), b.asks(1, 0, 0), b.looks(0, 0), b.begins(0), b.keeps(0, fine(1)), b.asks(1, 1, 1), b.keeps(1, ring(1))), times(1, ring(1))},
		// a need that stands twice is asked for twice, and counts twice
		{recipes(gives(5), gives(7, 0, 0)), []int{1}, steps(
			b.begins(1), b.asks(1, 0, 0), b.looks(0, 0), b.begins(0), b.keeps(0, fine(5)),
			b.asks(1, 1, 0), b.looks(0, 0), b.finds(0, fine(5)), b.keeps(1, fine(17))), times(1, fine(17))},
		// needs of one that fails, or panics, come first all the same
		{recipes(gives(5), failing(7, 0), panics(8, 0)), []int{1, 2}, steps(
			c.begins(1), c.asks(1, 0, 0), c.looks(0, 0), c.begins(0), c.keeps(0, fine(5)), c.keeps(1, failed(7)),
			c.begins(2), c.asks(2, 0, 0), c.looks(0, 0), c.finds(0, fine(5)), c.keeps(2, panicked(8))), []api.Answer{failed(7), panicked(8)}},
		// behind a need that panics nothing is looked at; nor is the act
		{recipes(gives(5), panics(-9), panics(7, 1, 0)), []int{2, 0}, steps(
			c.begins(2), c.asks(2, 0, 1), c.looks(1, 0), c.begins(1), c.keeps(1, panicked(-9)), c.keeps(2, lacks(1)),
			c.begins(0), c.keeps(0, fine(5))), []api.Answer{lacks(1), fine(5)}},
		// what lacks something is lacked itself
		{recipes(failing(5), gives(1, 0), gives(1, 1)), []int{2, 1}, steps(
			c.begins(2), c.asks(2, 0, 1), c.looks(1, 0), c.begins(1), c.asks(1, 0, 0), c.looks(0, 0), c.begins(0), c.keeps(0, failed(5)),
			c.keeps(1, lacks(0)), c.keeps(2, lacks(1)), c.finds(1, lacks(0))), []api.Answer{lacks(1), lacks(0)}},
		// a ring of three, and one who needs a key of it; what was asked for stays written down
		{recipes(gives(1, 1), gives(1, 2), gives(1, 0), gives(1, 1)), []int{3, 0, 2}, steps(
			d.begins(3), d.asks(3, 0, 1), d.looks(1, 0), d.begins(1), d.asks(1, 0, 2), d.looks(2, 0), d.begins(2), d.asks(2, 0, 0), d.looks(0, 0),
			d.begins(0), d.asks(0, 0, 1), d.looks(1, 3, 2, 1), d.keeps(0, ring(1)),
			d.keeps(2, lacks(0)), d.keeps(1, lacks(2)), d.keeps(3, lacks(1)),
			d.finds(0, ring(1)), d.finds(2, lacks(0))), []api.Answer{lacks(1), ring(1), lacks(0)}},
		// a way that others have written down is followed as far as it goes
		{recipes(gives(1, 1), gives(2, 2), gives(3), gives(4, 0)), []int{0, 3}, steps(
			d.begins(0), d.asks(0, 0, 1), d.looks(1, 0), d.begins(1), d.asks(1, 0, 2), d.looks(2, 0), d.begins(2), d.keeps(2, fine(3)),
			d.keeps(1, fine(5)), d.keeps(0, fine(6)),
			d.begins(3), d.asks(3, 0, 0), d.looks(0, 2, 1, 3, 2, 0), d.finds(0, fine(6)), d.keeps(3, fine(10))), []api.Answer{fine(6), fine(10)}},
	} {
		w := turn.New(nil)
		got := trial.Calls(w, [][]api.Call{gets(x.keys...)}, does(made(t, w, x.l)))
		if !slices.Equal(w.Trace(), x.want) || !slices.Equal(got[0], x.answers) {
			t.Errorf("%d: %v\n%v\nis to be\n%v", i, got, w.Trace(), x.want)
		}
	}
}

// by hand: threads that come at one time
func TestTogether(t *testing.T) {
	a, b := by{0, 2}, by{1, 2}
	x, y, z := by{0, 3}, by{1, 3}, by{2, 3}
	for _, row := range []struct {
		name     string
		l        []api.Recipe
		schedule []int
		scripts  [][]api.Call
		want     []api.Step
		answers  [][]api.Answer
	}{
		{"one who comes while it is built", recipes(gives(5), gives(7, 0)), []int{1, 1, 0, 1, 0}, [][]api.Call{gets(1), gets(1)},
			steps(b.loads(1, 0), b.takes(1), a.loads(1, trial.Going(1)), b.asks(1, 0, 0), b.looks(0, 0), b.begins(0), b.keeps(0, fine(5)), b.keeps(1, fine(12)), a.wakes(1), a.finds(1, fine(12))),
			[][]api.Answer{{fine(12)}, {fine(12)}}},
		{"one whose Cas comes too late, when it is done already", recipes(gives(5), gives(7)), []int{0, 1, 1, 1, 1}, [][]api.Call{gets(1), gets(1)},
			steps(a.loads(1, 0), b.begins(1), b.keeps(1, fine(7)), a.tries(1, trial.Done(0)), a.finds(1, fine(7))),
			[][]api.Answer{{fine(7)}, {fine(7)}}},
		{"a need that another one builds is waited for", recipes(gives(5), gives(7, 0)), []int{1, 1, 0, 0, 0, 0, 0, 1, 1}, [][]api.Call{gets(1), gets(0)},
			steps(b.begins(0), a.begins(1), a.asks(1, 0, 0), a.looks(0, 0), a.loads(0, trial.Going(1)), b.keeps(0, fine(5)), a.wakes(0), a.finds(0, fine(5)), a.keeps(1, fine(12))),
			[][]api.Answer{{fine(12)}, {fine(5)}}},
		{"a need that another one builds panics", recipes(panics(-5), gives(7, 0)), []int{1, 1, 0, 0, 0, 0, 0, 1, 1}, [][]api.Call{gets(1), gets(0)},
			steps(b.begins(0), a.begins(1), a.asks(1, 0, 0), a.looks(0, 0), a.loads(0, trial.Going(1)), b.keeps(0, panicked(-5)), a.wakes(0), a.finds(0, panicked(-5)), a.keeps(1, lacks(0))),
			[][]api.Answer{{lacks(0)}, {panicked(-5)}}},
		{"who waits is told what a key lacks", recipes(failing(5), gives(7, 0)), []int{1, 1, 0, 1, 0}, [][]api.Call{gets(1), gets(1, 0)},
			steps(b.begins(1), a.loads(1, trial.Going(1)), b.asks(1, 0, 0), b.looks(0, 0), b.begins(0), b.keeps(0, failed(5)), b.keeps(1, lacks(0)),
				a.wakes(1), b.loads(0, trial.Done(api.ErrOnceFail)), a.loads(1, trial.Done(api.ErrBoxNeed)), b.reads(0, 5), a.reads(1, 0)),
			[][]api.Answer{{lacks(0)}, {lacks(0), failed(5)}}},
		{"a ring of two, of which one has looked before the other asks: it waits, and is told", recipes(gives(1, 1), gives(1, 0)), []int{0, 0, 0, 0, 1, 1, 0, 0}, [][]api.Call{gets(0), gets(1)},
			steps(a.begins(0), a.asks(0, 0, 1), a.looks(1, 0), b.begins(1), a.loads(1, trial.Going(1)), b.asks(1, 0, 0), b.looks(0, 2), b.keeps(1, ring(0)), a.wakes(1), a.finds(1, ring(0)), a.keeps(0, lacks(1))),
			[][]api.Answer{{lacks(1)}, {ring(0)}}},
		{"a ring of two, of which both are written down ahead of either's look", recipes(gives(1, 1), gives(1, 0)), []int{0, 0, 1, 1, 0, 1, 1, 1, 1}, [][]api.Call{gets(0), gets(1)},
			steps(a.begins(0), b.begins(1), a.asks(0, 0, 1), b.asks(1, 0, 0), b.looks(0, 2), b.keeps(1, ring(0)), a.looks(1, 1), a.keeps(0, ring(1))),
			[][]api.Answer{{ring(1)}, {ring(0)}}},
		{"a ring of two, of which one has looked, but does not wait", recipes(gives(1, 1), gives(1, 0)), []int{0, 0, 0, 0, 1, 1, 1, 1, 1, 1}, [][]api.Call{gets(0), gets(1)},
			steps(a.begins(0), a.asks(0, 0, 1), a.looks(1, 0), b.begins(1), b.asks(1, 0, 0), b.looks(0, 2), b.keeps(1, ring(0)), a.finds(1, ring(0)), a.keeps(0, lacks(1))),
			[][]api.Answer{{lacks(1)}, {ring(0)}}},
		{"a ring of three from three sides: the last one to ask is told, and the others through it", recipes(gives(1, 1), gives(1, 2), gives(1, 0)),
			[]int{0, 0, 1, 1, 2, 2, 0, 0, 1, 1, 0, 0, 0, 0, 0, 0}, [][]api.Call{gets(0), gets(1), gets(2)},
			steps(x.begins(0), y.begins(1), z.begins(2), x.asks(0, 0, 1), x.looks(1, 0), y.asks(1, 0, 2), y.looks(2, 0), x.loads(1, trial.Going(1)), y.loads(2, trial.Going(2)),
				z.asks(2, 0, 0), z.looks(0, 2, 1, 3), z.keeps(2, ring(0)), y.wakes(2), y.finds(2, ring(0)), y.keeps(1, lacks(2)), x.wakes(1), x.finds(1, lacks(2)), x.keeps(0, lacks(1))),
			[][]api.Answer{{lacks(1)}, {lacks(2)}, {ring(0)}}},
	} {
		w := turn.New(row.schedule)
		got := trial.Calls(w, row.scripts, does(made(t, w, row.l)))
		if !slices.Equal(w.Trace(), row.want) || !trial.Same(got, row.answers) {
			t.Errorf("%s: %v\n%v\nis to be\n%v", row.name, got, w.Trace(), row.want)
		}
	}
}

// in a world that was stuck already nobody waits: a build that would have to is given up, and not kept
func TestInAStuckWorld(t *testing.T) {
	w := turn.New(append([]int{0, 1, 0, 0, 0}, times(18, 1)...))
	b, never := made(t, w, recipes(gives(5), gives(7, 0), gives(9, 1))), cell.New(w, 0)
	got := trial.Calls(w, [][]api.Call{gets(0), gets(1, 1, 2, 2, 0)}, func(x *turn.Thread, c api.Call) api.Answer {
		if !w.Stuck() && never.Until(x, 0) {
			t.Error("it was not stuck")
		}
		return b.Get(x, c.A)
	})
	x, y := by{0, 3}, by{1, 3}
	want := steps(
		x.step(9, api.StepLoad, 0, 0), y.step(9, api.StepLoad, 0, 0), by{-1, 3}.step(-1, api.StepStuck, 0, 0),
		x.begins(0),
		y.begins(1), y.asks(1, 0, 0), y.looks(0, 0), y.loads(0, trial.Going(0)),
		y.loads(1, trial.Going(1)),
		y.begins(2), y.asks(2, 0, 1), y.looks(1, 1, 0, 0), y.loads(1, trial.Going(1)), y.keeps(2, lacks(1)),
		y.finds(2, lacks(1)),
		y.loads(0, trial.Going(0)),
		x.keeps(0, fine(5)))
	if !slices.Equal(w.Trace(), want) || !trial.Same(got, [][]api.Answer{{fine(5)}, {stuck, again, lacks(1), lacks(1), stuck}}) {
		t.Errorf("%v\n%v\nis to be\n%v", got, w.Trace(), want)
	}
}

// sums of needs: below 0, and past 1000003, once and many times
func TestSums(t *testing.T) {
	all := func(need int) []int { return times(api.MaxNeeds, need) }
	for i, x := range []struct {
		l    []api.Recipe
		want []api.Answer
	}{
		{recipes(gives(-6), gives(6, 0), gives(7, 0), gives(5, 0), gives(-1000, 0)), []api.Answer{fine(999997), fine(0), fine(1), fine(1000002), fine(998997)}},
		{recipes(gives(-1), gives(1000, all(0)...), gives(-1000, all(0)...)), []api.Answer{fine(1000002), fine(980), fine(998983)}},
		{recipes(gives(1000), gives(1000, all(0)...), gives(1000, all(1)...), gives(1000, all(2)...), gives(-1000, all(3)...)), []api.Answer{fine(1000), fine(21000), fine(421000), fine(420976), fine(418496)}},
		{recipes(gives(-1000), gives(-1000, all(0)...), gives(-1000, all(1)...), gives(-1000, all(2)...)), []api.Answer{fine(999003), fine(979003), fine(579003), fine(579027)}},
	} {
		w := turn.New(nil)
		keys := make([]int, len(x.l))
		for key := range keys {
			keys[key] = len(x.l) - 1 - key
		}
		slices.Reverse(x.want)
		if got := trial.Calls(w, [][]api.Call{gets(keys...)}, does(made(t, w, x.l))); !slices.Equal(got[0], x.want) {
			t.Errorf("%d: %v", i, got)
		}
	}
}

// Levels and Ends count for nothing: keys of all Levels are built, and nothing is ever closed
func TestLevelsAndEnds(t *testing.T) {
	r := trial.Row(8)
	for range 300 {
		l := r.Recipes(6)
		plain := slices.Clone(l)
		for key := range plain {
			plain[key].Level, plain[key].End = 0, 0
		}
		scripts, schedule := someGets(&r, len(l), 3, 5), r.Schedule(60)
		got, e := player(l).Tell(schedule, scripts)
		if want, other := player(plain).Tell(schedule, scripts); e != api.OK || other != api.OK || !got.Same(want) {
			t.Fatal(l, scripts, got, want)
		}
	}
}

// someGets are scripts that ask for keys, a few of which are none; some have an Op that there is not, if others are told.
func someGets(r *trial.Row, keys, threads, most int, others ...int) [][]api.Call {
	out := r.Scripts(threads, most, append(times(6, 1), others...)...)
	few := r.One(1, 2, keys, keys)
	for _, script := range out {
		for i := range script {
			script[i].A = r.Below(min(few, keys))
			if r.Below(20) == 0 {
				script[i].A = r.One(-1, keys, keys+1, -keys, math.MaxInt, math.MinInt)
			}
		}
	}
	return out
}

// count counts what was told.
type count struct {
	codes        map[api.Errno]int
	woken, tried int
}

func (c *count) of(told trial.Told) {
	if c.codes == nil {
		c.codes = map[api.Errno]int{}
	}
	for _, x := range slices.Concat(told.Answers...) {
		c.codes[x.Code]++
	}
	c.woken += told.Count(trial.Wakes)
	c.tried += told.Count(trial.Fails)
}

// least is how often that was told which was told least.
func (c *count) least(codes ...api.Errno) int {
	least := min(c.woken, c.tried)
	for _, e := range codes {
		least = min(least, c.codes[e])
	}
	return least
}

// any calls of boxes' own, under many schedules, by up to 20 threads
func TestCalls(t *testing.T) {
	r := trial.Row(1)
	var c count
	for range 2500 {
		l := r.Recipes(r.One(1, 2, 3, 4, 6, 12))
		scripts, schedule := someGets(&r, len(l), r.One(1, 2, 3, api.MaxThreads, 20), 4), r.Schedule(200)
		got, _ := trial.Player(func(w *turn.World, scripts [][]api.Call) ([][]api.Answer, api.Errno) {
			return play.Run(w, scripts, does(made(t, w, l))), api.OK
		}).Tell(schedule, scripts)
		if want := model(l, scripts).Play(schedule); !got.Same(want) {
			t.Fatalf("%v, %v of %v:\n%v\nis to be\n%v", schedule, scripts, l, got, want)
		}
		c.of(got)
	}
	if c.least(api.OK, api.ErrOnceFail, api.ErrOncePanic, api.ErrBoxRing, api.ErrBoxNeed, api.ErrHouseKey) < 300 || len(c.codes) != 6 {
		t.Errorf("the calls are too tame: %v", c)
	}
}

// a free thread alone is answered as the steps say
func TestFreely(t *testing.T) {
	r := trial.Row(5)
	for _, id := range []int{0, 1, 7, 100, 255} {
		for range 200 {
			l := r.Recipes(r.One(1, 3, 8, 40))
			b, x := made(t, nil, l), turn.Free(id)
			script := slices.Concat(someGets(&r, len(l), 3, 20)...)
			for i, want := range model(l, [][]api.Call{script}).Play(nil).Answers[0] {
				if got := b.Get(x, script[i].A); got != want {
					t.Fatalf("the thread %d, the call %d of %v, of %v: %v, not %v", id, i, script, l, got, want)
				}
				if got := b.Get(turn.Free(255-id), script[i].A); got != want {
					t.Fatalf("the thread %d behind it, the call %d of %v, of %v: %v, not %v", 255-id, i, script, l, got, want)
				}
			}
		}
	}
}

// P13.2

// the chapter's examples, with their steps
func TestExamples(t *testing.T) {
	a, b, c := by{0, 3}, by{0, 2}, by{0, 1}
	d, e := by{1, 1}, by{1, 2}
	two := recipes(gives(1, 1), gives(1, 0))
	for i, x := range []struct {
		l       []api.Recipe
		scripts [][]api.Call
		answers [][]api.Answer
		want    []api.Step // without the notes of calls
	}{
		{recipes(gives(5), gives(7, 0), gives(1, 1, 0)), [][]api.Call{gets(2, 1, 9)}, [][]api.Answer{{fine(18), fine(12), none}}, steps(
			a.begins(2), a.asks(2, 0, 1), a.looks(1, 0), a.begins(1), a.asks(1, 0, 0), a.looks(0, 0), a.begins(0), a.keeps(0, fine(5)), a.keeps(1, fine(12)),
			a.asks(2, 2, 0), a.looks(0, 0), a.finds(0, fine(5)), a.keeps(2, fine(18)), a.finds(1, fine(12)))},
		{recipes(failing(5), gives(7, 0)), [][]api.Call{gets(1, 0)}, [][]api.Answer{{lacks(0), failed(5)}}, steps(
			b.begins(1), b.asks(1, 0, 0), b.looks(0, 0), b.begins(0), b.keeps(0, failed(5)), b.keeps(1, lacks(0)), b.finds(0, failed(5)))},
		{recipes(panics(-3)), [][]api.Call{gets(0), gets(0)}, [][]api.Answer{{panicked(-3)}, {panicked(-3)}}, steps(
			c.loads(0, 0), d.loads(0, 0), c.takes(0), d.tries(0, 1), c.stores(0, -3), d.loads(0, 1), c.ends(0, 71), d.wakes(0), d.finds(0, panicked(-3)))},
		{recipes(gives(1, 0)), [][]api.Call{gets(0)}, [][]api.Answer{{ring(0)}}, steps(c.begins(0), c.asks(0, 0, 0), c.keeps(0, ring(0)))},
		{two, [][]api.Call{gets(0, 1)}, [][]api.Answer{{lacks(1), ring(0)}}, steps(
			b.begins(0), b.asks(0, 0, 1), b.looks(1, 0), b.begins(1), b.asks(1, 0, 0), b.looks(0, 2), b.keeps(1, ring(0)), b.keeps(0, lacks(1)), b.finds(1, ring(0)))},
		{two, [][]api.Call{gets(0), gets(1)}, [][]api.Answer{{ring(1)}, {ring(0)}}, steps(
			b.loads(0, 0), e.loads(1, 0), b.takes(0), e.takes(1), b.asks(0, 0, 1), e.asks(1, 0, 0), b.looks(1, 1), e.looks(0, 2),
			b.stores(0, 1), e.stores(1, 0), b.ends(0, 130), e.ends(1, 130))},
	} {
		told := plays(t, nil, x.l, x.scripts)
		if !trial.Same(told.Answers, x.answers) || !slices.Equal(trial.Bare(told.Trace), x.want) {
			t.Errorf("%d: %v\n%v\nis to be\n%v", i, told.Answers, trial.Bare(told.Trace), x.want)
		}
	}
	if a, e := box.Play(turn.New(nil), recipes(gives(1, 9)), [][]api.Call{gets(0)}); a != nil || e != api.ErrRecipe {
		t.Error(a, e)
	}
}

// those of the document's examples of the whole that are a box's
func TestExamplesOfTheWhole(t *testing.T) {
	for i, x := range []struct {
		l        []api.Recipe
		schedule []int
		scripts  [][]api.Call
		answers  [][]api.Answer
	}{
		{recipes(gives(5)), []int{1, 1, 1, 1, 1, 1}, [][]api.Call{gets(0), gets(0)}, [][]api.Answer{{fine(5)}, {fine(5)}}},
		{recipes(gives(1, 1), gives(1, 0)), nil, [][]api.Call{gets(0), gets(1)}, [][]api.Answer{{ring(1)}, {ring(0)}}},
		{recipes(failing(9), gives(7, 0)), nil, [][]api.Call{gets(1, 0)}, [][]api.Answer{{lacks(0), failed(9)}}},
		{recipes(panics(-3)), nil, [][]api.Call{gets(0, 0)}, [][]api.Answer{{panicked(-3), panicked(-3)}}},
	} {
		if told := plays(t, x.schedule, x.l, x.scripts); !trial.Same(told.Answers, x.answers) {
			t.Errorf("%d: %v", i, told)
		}
	}
}

// the notes of one thread's calls stand right around their steps, with the code that was told
func TestNotes(t *testing.T) {
	x := by{0, 2}
	begins := func(i int) []api.Step { return []api.Step{trial.Begin(0, i)} }
	ends := func(i int, e api.Errno) []api.Step { return []api.Step{trial.End(0, i, e)} }
	want := steps(
		begins(0), x.begins(1), x.asks(1, 0, 0), x.looks(0, 0), x.begins(0), x.keeps(0, panicked(3)), x.keeps(1, lacks(0)), ends(0, api.ErrBoxNeed),
		begins(1), x.finds(0, panicked(3)), ends(1, api.ErrOncePanic),
		begins(2), ends(2, api.ErrHouseKey))
	for _, schedule := range [][]int{nil, {0}, {-1, 5}, times(40, 3)} {
		if told := plays(t, schedule, recipes(panics(3), gives(7, 0)), [][]api.Call{gets(1, 0, 2)}); !slices.Equal(told.Trace, want) {
			t.Error(schedule, told)
		}
	}
}

// many Plays, under many schedules, against the model
func TestPlay(t *testing.T) {
	r := trial.Row(2)
	var c count
	for range 5000 {
		l := r.Recipes(r.One(1, 2, 3, 4, 6, 12))
		c.of(plays(t, r.Schedule(250), l, someGets(&r, len(l), r.One(1, 2, 3, api.MaxThreads), 5, 1, r.One(0, 2, -1))))
	}
	if c.least(api.OK, api.ErrOnceFail, api.ErrOncePanic, api.ErrBoxRing, api.ErrBoxNeed, api.ErrHouseKey, api.ErrArg) < 300 || len(c.codes) != 7 {
		t.Errorf("the Plays are too tame: %v", c)
	}
}

// neither B nor C is looked at, nor anything of a call that there is not
func TestNotLookedAt(t *testing.T) {
	for _, n := range []int{0, 1, -1, 2, math.MaxInt, math.MinInt} {
		told := plays(t, nil, recipes(gives(3), failing(4)), [][]api.Call{{{Op: 2, A: n, B: n, C: n}, {Op: 1, A: 0, B: n, C: n}, {Op: 0, A: n, B: n, C: n}, {Op: 1, A: 1, B: n, C: n}}})
		if !slices.Equal(told.Answers[0], []api.Answer{arg, fine(3), arg, failed(4)}) {
			t.Error(n, told)
		}
	}
}

// an Op that there is not is told, without a step, and the script goes on
func TestNoSuchOp(t *testing.T) {
	x := by{0, 1}
	for _, op := range trial.Strange(1) {
		told := plays(t, nil, recipes(gives(5)), [][]api.Call{{{Op: op}, {Op: 1}}, {{Op: op}}})
		want := steps([]api.Step{trial.Begin(0, 0), trial.End(0, 0, api.ErrArg), trial.Begin(0, 1), trial.Begin(1, 0), trial.End(1, 0, api.ErrArg)},
			x.begins(0), x.keeps(0, fine(5)), []api.Step{trial.End(0, 1, 0)})
		if !slices.Equal(told.Trace, want) || !trial.Same(told.Answers, [][]api.Answer{{arg, fine(5)}, {arg}}) {
			t.Error(op, told)
		}
	}
}

// a key that there is not is told, without a step, and the script goes on: A is no number modulo
func TestNoSuchKey(t *testing.T) {
	for _, key := range []int{2, 3, -1, -2, 1 << 32, 1<<32 + 1, math.MaxInt, math.MinInt} {
		told := plays(t, nil, recipes(gives(5), gives(6)), [][]api.Call{gets(key, 1, key)})
		if !slices.Equal(told.Answers[0], []api.Answer{none, fine(6), none}) {
			t.Error(key, told)
		}
	}
}

// a schedule may be shorter or longer than what is done, of any numbers
func TestSchedules(t *testing.T) {
	all := [][]api.Call{gets(0, 1, 2), gets(3, 2), gets(1, 3)}
	for _, l := range [][]api.Recipe{
		recipes(gives(1), gives(2, 0), panics(3, 1, 0), gives(4, 1, 1)),
		recipes(gives(1, 1), gives(2, 2), gives(3, 3), gives(4, 0)),
	} {
		for _, schedule := range [][]int{nil, {}, {2}, {-1}, {-1, -2, -3, -4}, {math.MinInt, math.MaxInt}, times(500, -1), times(200, 0, 7, -5)} {
			told := plays(t, schedule, l, all)
			if again := plays(t, schedule, l, all); !again.Same(told) {
				t.Error("another time otherwise", schedule, told, again)
			}
		}
	}
}

// great are recipes at the limits: 100 keys, each of which needs the next one, also in a ring; 20 needs each; each needs all that it may of those ahead of it.
func great() [][]api.Recipe {
	row, circle, wide, same := make([]api.Recipe, 100), make([]api.Recipe, 100), make([]api.Recipe, 100), make([]api.Recipe, 100)
	for key := range row {
		row[key], circle[key] = gives(1000, key+1), gives(-1000, (key+1)%100)
		for need := max(0, key-api.MaxNeeds); need < key; need++ {
			wide[key].Needs = append(wide[key].Needs, need)
		}
		wide[key].Value = key - 50
		same[key] = gives(1, times(api.MaxNeeds, max(key-1, 0))...)
	}
	row[99].Needs, same[0].Needs = nil, nil
	return [][]api.Recipe{row, circle, wide, same}
}

// at the limits: eight threads, 64 calls each
func TestGreatest(t *testing.T) {
	up, down := make([]int, api.MaxCalls), make([]int, api.MaxCalls)
	for i := range up {
		up[i], down[i] = i, 99-i
	}
	for i, l := range great() {
		for _, script := range [][]api.Call{gets(up...), gets(down...)} {
			for _, schedule := range [][]int{nil, times(3000, 5, 3, -1)} {
				told := plays(t, schedule, l, times(api.MaxThreads, script))
				for _, answers := range told.Answers {
					if !slices.Equal(answers, told.Answers[0]) || len(answers) != api.MaxCalls {
						t.Error(i, answers)
					}
				}
			}
			plays(t, []int{-1, -1, -1, 0}, l, [][]api.Call{script})
		}
	}
	told := plays(t, nil, great()[0], [][]api.Call{gets(0)})
	if told.Answers[0][0] != fine(100000) {
		t.Error(told.Answers)
	}
}

func TestNoCalls(t *testing.T) {
	told := plays(t, nil, recipes(gives(1)), [][]api.Call{nil})
	if len(told.Trace) != 0 || len(told.Answers) != 1 || len(told.Answers[0]) != 0 {
		t.Error(told)
	}
	plays(t, nil, times(api.MaxKeys, gives(1, 0)), make([][]api.Call, api.MaxThreads))
	told = plays(t, []int{1}, recipes(gives(5), gives(7, 0)), [][]api.Call{{}, gets(1, 0), nil})
	if !trial.Same(told.Answers, [][]api.Answer{{}, {fine(12), fine(5)}, {}}) {
		t.Error(told)
	}
}

// the cells of a world that has others go behind these, and it is the WORD there that is awaited
func TestCellsBehindOthers(t *testing.T) {
	w := turn.New([]int{1, 1, 0, 0, 0, 0, 0, 1, 1})
	cell.New(w, 77)
	got, e := box.Play(w, recipes(gives(5), gives(7, 0)), [][]api.Call{gets(1), gets(0)})
	a, b := by{0, 2}, by{1, 2}
	want := steps(b.begins(0), a.begins(1), a.asks(1, 0, 0), a.looks(0, 0), a.loads(0, trial.Going(1)), b.keeps(0, fine(5)), a.wakes(0), a.finds(0, fine(5)), a.keeps(1, fine(12)))
	for i := range want {
		if want[i].Cell >= 0 {
			want[i].Cell++
		}
	}
	if e != api.OK || !trial.Same(got, [][]api.Answer{{fine(12)}, {fine(5)}}) || !slices.Equal(trial.Bare(w.Trace()), want) {
		t.Error(got, e, w.Trace())
	}
	if behind := w.Cell(); behind != 7 {
		t.Errorf("it made %d cells", behind-1)
	}
}

// what every Play refuses comes first, then what recipe.Right does
func TestRefused(t *testing.T) {
	script := append(gets(0, 1, -5, 300), api.Call{Op: 9})
	for i, l := range append(great(), recipes(gives(1)), recipes(gives(1, 1), panics(1, 0))) {
		if err := player(l).Refuses(script); err != nil {
			t.Errorf("%d: %v", i, err)
		}
	}
	for i, x := range trial.WrongRecipes() {
		for _, some := range [][]api.Call{nil, script} {
			if err := player(x.Recipes).RefusesBy(x.Error, some); err != nil {
				t.Errorf("%d: %v", i, err)
			}
		}
	}
}

// P13.3

// W6: what is handed in is neither changed nor kept
func TestMemory(t *testing.T) {
	r := trial.Row(9)
	for range 300 {
		l := trial.RoomyRecipes(r.Recipes(6))
		given := trial.WholeRecipes(l)
		scripts := someGets(&r, len(l), 3, 4)
		want := plays(t, nil, l, scripts)
		w := turn.New(nil)
		b := made(t, w, l)
		if !reflect.DeepEqual(trial.WholeRecipes(l), given) {
			t.Fatalf("the recipes were changed: %v, they were %v", trial.WholeRecipes(l), given)
		}
		trial.SpoilRecipes(l)
		got := trial.Calls(w, scripts, func(x *turn.Thread, c api.Call) api.Answer {
			a := b.Get(x, c.A)
			trial.SpoilRecipes(l)
			return a
		})
		if !trial.Same(got, want.Answers) || !slices.Equal(w.Trace(), trial.Bare(want.Trace)) {
			t.Fatalf("%v of %v hang on what was handed in: %v, not %v", scripts, given, got, want.Answers)
		}
	}
	for _, l := range [][]api.Recipe{recipes(gives(5), gives(7, 0)), recipes(gives(1, 1), gives(1, 0)), recipes(panics(3), failing(4))} {
		for _, script := range [][]api.Call{gets(1, 0), gets(0, 0, 5), append(gets(1), api.Call{Op: 9})} {
			if err := player(l).Keeps(script); err != nil {
				t.Errorf("%v of %v: %v", script, l, err)
			}
		}
	}
}

// recipes may share their Needs with each other, and be asked of at one time
func TestShared(t *testing.T) {
	needs := []int{0, 1, 2}
	l := recipes(gives(1), gives(2, needs[:1]...), gives(3, needs[:2]...), gives(4, needs...))
	for range 3 {
		told := plays(t, nil, l, [][]api.Call{gets(3, 2, 1, 0)})
		if ok, v := recipe.Fate(l, 3); !ok || !slices.Equal(told.Answers[0], trial.Values(v, 7, 3, 1)) {
			t.Error(told.Answers, v)
		}
	}
}
