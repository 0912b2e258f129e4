package house_test

import (
	"errors"
	"slices"
	"strconv"
	"testing"

	"butler/api"
	"butler/house"
	"butler/latch"
	"butler/recipe"
	"butler/trial"
	"butler/turn"
)

// What follows is read off the traces and the answers alone, without the model.

// follows plays, and asks for all that follows.
func follows(t *testing.T, schedule []int, l []api.Recipe, calls [][]api.Call) trial.Told {
	t.Helper()
	told, e := player(l).Tell(schedule, calls)
	if e != api.OK {
		t.Fatal(schedule, l, calls, e)
	}
	p := trial.Played{Told: told, Recipes: l, Scripts: calls}
	if err := p.Follows(); err != nil {
		t.Fatalf("%v: %v, %v of %v: %v", err, schedule, calls, l, told)
	}
	if err := nothingLeft(p); err != nil {
		t.Fatalf("at rest: %v: %v, %v of %v: %v", err, schedule, calls, l, told)
	}
	return told
}

// P15.6

// T1 to T4, under many schedules
func TestFollows(t *testing.T) {
	r, c := trial.Row(6), codes{}
	closed := 0
	for range 4000 {
		l := r.FlatRecipes(r.One(2, 3, 4, 5, 8, 15))
		told := follows(t, r.Schedule(500), l, r.TreeScripts(len(l), r.One(2, 3, 4, api.MaxThreads), 6, r.One(1, 1, 3)))
		c.of(told.Answers)
		closed += len(noted(told, api.StepClose))
	}
	if c.least() < 200 || closed < 200 {
		t.Errorf("the Plays are too tame: %v, %d closed", c, closed)
	}
}

// rings from all sides at one time, in several scopes, some of which are closed meanwhile: nobody waits for ever, and one at least is told
func TestRings(t *testing.T) {
	r := trial.Row(7)
	one, several, woken := 0, 0, 0
	for range 3000 {
		many := r.One(1, 2, 2, 3, 3, 4)
		l := r.RingRecipes(many)
		calls := scripts(script(open(0), open(0)))
		for i := range r.One(1, 2, 3, many, api.MaxThreads-1) {
			calls = append(calls, script(ask(r.Below(3), r.One(i%many, r.Below(2*many))), ask(r.Below(3), r.Below(2*many))))
		}
		if r.Below(3) == 0 {
			calls[0] = append(calls[0], shut(r.Below(3)))
		}
		told := follows(t, r.Schedule(300), l, calls)
		rings := told.Count(func(s api.Step) bool { return s.Op == api.StepStore && s.New == trial.Done(api.ErrBoxRing) })
		if begun := len(noted(told, api.StepBuild)); begun > 0 && rings == 0 {
			t.Fatalf("nobody is told of a ring: %v of %v: %v", calls, l, told)
		}
		one += trial.Number(rings == 1)
		several += trial.Number(rings > 1)
		woken += told.Count(trial.Wakes)
	}
	if min(one, several, woken) < 200 {
		t.Errorf("too tame: %d times one was told, %d times several, %d woken", one, several, woken)
	}
}

// threads that get into each other's way, whose turns change few times, at any steps
func TestFewChanges(t *testing.T) {
	for _, x := range trial.SmallPlays() {
		for first := range 34 {
			for second := range 28 {
				follows(t, slices.Concat(times(first, 0), times(second, 1), times(first%9, 0), times(80, -1)), x.Recipes, x.Scripts)
			}
		}
	}
}

func TestFollowsAtTheLimits(t *testing.T) {
	for _, l := range trial.GreatRecipes() {
		for _, schedule := range [][]int{nil, times(4000, 7, -3, 2, 2, 100)} {
			follows(t, schedule, l, greatest())
		}
	}
}

// P15.7

// closings are the answers of all Closes that found their scope.
func closings(p trial.Played) map[int]api.Answer {
	out := map[int]api.Answer{}
	for thread, calls := range p.Scripts {
		for i, c := range calls {
			if x := p.Answers[thread][i]; c.Op == 3 && x != noScope {
				out[c.A] = x
			}
		}
	}
	return out
}

// closed are the scopes that are closed in the end: those whose Close was answered, and all within them.
func closed(p trial.Played) []int {
	var out []int
	told := closings(p)
	for n, up := range p.Lines() {
		if slices.ContainsFunc(up, func(around int) bool { _, ok := told[around]; return ok }) {
			out = append(out, n)
		}
	}
	return out
}

// nothingLeft: what was built in a scope that is closed in the end, and can be, is closed there, once; in others nothing is.
func nothingLeft(p trial.Played) error {
	shuts, builds, closes := closed(p), noted(p.Told, api.StepBuild), noted(p.Told, api.StepClose)
	for _, x := range builds {
		many := 0
		for _, y := range closes {
			many += trial.Number(x == y)
		}
		can, _ := recipe.Fate(p.Recipes, x[0])
		if many != trial.Number(can && slices.Contains(shuts, x[1])) {
			return errors.New("the key " + strconv.Itoa(x[0]) + " of the scope " + strconv.Itoa(x[1]) + " is closed " + strconv.Itoa(many) + " times")
		}
	}
	return nil
}

// who reads a Play sees what is left open
func TestNothingLeft(t *testing.T) {
	calls := scripts(script(open(0), open(0), ask(1, 2), ask(2, 1), shut(1)))
	for i, spoil := range []func(p *trial.Played){
		func(p *trial.Played) { p.Answers[0][4] = noScope },
		func(p *trial.Played) { p.Scripts[0][4] = shut(0) },
		func(p *trial.Played) {
			p.Trace = slices.DeleteFunc(p.Trace, func(s api.Step) bool { return s.Op == api.StepClose && s.Old == 1 })
		},
		func(p *trial.Played) { p.Trace = append(p.Trace, trial.Step(0, -1, api.StepClose, 1, 1)) },
	} {
		p := trial.Played{Told: plays(t, nil, example(), calls), Recipes: example(), Scripts: scripts(slices.Clone(calls[0]))}
		if err := nothingLeft(p); err != nil {
			t.Error(err)
		}
		if spoil(&p); nothingLeft(p) == nil {
			t.Errorf("the wrong Play %d passes", i)
		}
	}
}

// rests lets threads carry out scripts in a house, and, when all have ended, another one look, which is one of the same world.
func rests(w *turn.World, h *house.House, calls [][]api.Call, look func(x *turn.Thread, told [][]api.Answer)) {
	if w == nil {
		look(turn.Free(len(calls)), trial.Calls(nil, calls, does(h)))
		return
	}
	told, left := make([][]api.Answer, len(calls)), latch.New(w, len(calls))
	var bodies []func(*turn.Thread)
	for i, script := range calls {
		bodies = append(bodies, func(x *turn.Thread) {
			for _, c := range script {
				told[i] = append(told[i], does(h)(x, c))
			}
			left.Down(x)
		})
	}
	w.Run(append(bodies, func(x *turn.Thread) {
		left.Wait(x)
		look(x, told)
	}))
}

// atRest tells what is wrong with a house in which that was answered, when all have ended: each scope of which one was told is to be found; in those that are closed each ask is refused, in all others answered as Fate says.
func atRest(x *turn.Thread, h *house.House, p trial.Played) error {
	shuts, told := closed(p), closings(p)
	for n, up := range p.Lines() {
		if s, e := h.At(x, n); e != api.OK || s.Number() != n {
			return errors.New("it does not find the scope " + strconv.Itoa(n))
		}
		isClosed := slices.Contains(shuts, n)
		for key, l := range p.Recipes {
			got := h.Ask(x, n, key)
			right := asFate(p.Recipes, key, got)
			if l.Level >= len(up) {
				right = got == noKey
			} else if isClosed {
				right = got == isShut
			}
			if !right {
				return errors.New("the key " + strconv.Itoa(key) + " of the scope " + strconv.Itoa(n) + ": " + got.Code.Error())
			}
		}
		if before, ok := told[n]; isClosed && (h.Open(x, n) != isShut || ok && h.Close(x, n) != before) {
			return errors.New("it opens in the scope " + strconv.Itoa(n) + ", or closes it otherwise")
		}
	}
	return nil
}

// asFate tells whether an answer is as Fate says.
func asFate(l []api.Recipe, key int, a api.Answer) bool {
	if can, v := recipe.Fate(l, key); can {
		return a == fine(v)
	}
	return slices.Contains([]api.Errno{api.ErrOnceFail, api.ErrOncePanic, api.ErrBoxRing, api.ErrBoxNeed}, a.Code)
}

// looks is all that a house tells by turns, or freely, when all threads have ended.
func looks(t *testing.T, w *turn.World, l []api.Recipe, calls [][]api.Call) trial.Played {
	t.Helper()
	p, err := trial.Played{Recipes: l, Scripts: calls}, errors.New("nobody looked")
	h := made(t, w, l)
	rests(w, h, calls, func(x *turn.Thread, told [][]api.Answer) {
		p.Answers = told
		err = atRest(x, h, p)
	})
	if err != nil || w.Stuck() {
		t.Fatalf("%v: %v of %v, by turns: %v: %v", err, calls, l, w != nil, p.Answers)
	}
	return p
}

func TestAtRest(t *testing.T) {
	r := trial.Row(8)
	open, shut := 0, 0
	for range 1500 {
		l := r.FlatRecipes(r.One(2, 3, 5, 8))
		calls := r.TreeScripts(len(l), 4, 6, r.One(1, 3))
		for _, w := range []*turn.World{turn.New(r.Schedule(400)), nil} {
			p := looks(t, w, l, calls)
			shut += len(closed(p))
			open += len(p.Lines()) - len(closed(p))
		}
	}
	if open < 500 || shut < 500 {
		t.Errorf("too tame: %d open, %d closed", open, shut)
	}
}

// likewise threads that get into each other's way
func TestSmallAtRest(t *testing.T) {
	r := trial.Row(10)
	for _, x := range trial.SmallPlays() {
		for range 200 {
			looks(t, turn.New(r.Schedule(120)), x.Recipes, x.Scripts)
			looks(t, nil, x.Recipes, x.Scripts)
		}
	}
}

// in a Play: who comes when all others have ended; a scope within a scope that was closed is closed, whoever knows of it
func TestLastInAPlay(t *testing.T) {
	told := plays(t, times(900, 0), example(), scripts(
		script(open(0), open(1), ask(2, 2), ask(1, 0)), script(open(0), ask(3, 2), shut(1)), script(shut(1), shut(9)),
		script(ask(1, 0), ask(2, 0), ask(2, 2), open(2), shut(2), shut(1), ask(3, 1), ask(0, 0))))
	if last := told.Answers[3]; !slices.Equal(last, answers(isShut, isShut, isShut, isShut, fine(0), failed(1), fine(12), fine(5))) {
		t.Error(told.Answers)
	}
}
