package scope_test

import (
	"slices"
	"testing"

	"butler/api"
	"butler/trial"
	"butler/turn"
)

// follows plays, and asks for all that follows, which is read off the trace and the answers alone, without the model.
func follows(t *testing.T, schedule []int, l []api.Recipe, calls [][]api.Call) trial.Told {
	t.Helper()
	told, e := player(l).Tell(schedule, calls)
	if e != api.OK {
		t.Fatal(schedule, l, calls, e)
	}
	hold(t, schedule, told, l, calls)
	return told
}

func hold(t *testing.T, schedule []int, told trial.Told, l []api.Recipe, calls [][]api.Call) {
	t.Helper()
	p := trial.Played{Told: told, Recipes: l, Scripts: calls}
	if err := p.Follows(); err != nil {
		t.Fatalf("%v: %v, %v of %v: %v", err, schedule, calls, l, told)
	}
}

func TestFollows(t *testing.T) {
	r := trial.Row(3)
	var c count
	for range 6000 {
		l := r.FlatRecipes(r.One(2, 3, 4, 5, 8, 15))
		c.of(follows(t, r.Schedule(500), l, r.TreeScripts(len(l), r.One(2, 3, 4, api.MaxThreads), 6, r.One(1, 1, 3))))
	}
	if c.least(ordinary()...) < 300 {
		t.Errorf("the Plays are too tame: %v", c)
	}
}

// rings, from all sides at one time, in several scopes, some of which are closed meanwhile: nobody waits for ever, and one at least in each is told
func TestRings(t *testing.T) {
	r := trial.Row(4)
	one, several, woken, closed := 0, 0, 0, 0
	for range 5000 {
		many := r.One(1, 2, 2, 3, 3, 4)
		l := r.RingRecipes(many)
		calls := scripts(script(open(0), open(0)))
		for i := range r.One(1, 2, 3, many, api.MaxThreads-1) {
			calls = append(calls, script(ask(r.Below(3), r.One(i%many, r.Below(2*many))), ask(r.Below(3), r.Below(2*many))))
		}
		if r.Below(3) == 0 {
			calls[0] = append(calls[0], shut(r.Below(3)))
		}
		p := follows(t, r.Schedule(300), l, calls)
		told := p.Count(func(s api.Step) bool { return s.Op == api.StepStore && s.New == trial.Done(api.ErrBoxRing) })
		if begun := p.Count(func(s api.Step) bool { return s.Op == api.StepBuild }); begun > 0 && told == 0 {
			t.Fatalf("nobody is told of a ring: %v of %v: %v", calls, l, p)
		}
		one += trial.Number(told == 1)
		several += trial.Number(told > 1)
		woken += p.Count(trial.Wakes)
		closed += p.Count(func(s api.Step) bool { return s.Op == api.StepStore && s.Cell == root(many).result()+1 })
	}
	if min(one, several, woken, closed) < 300 {
		t.Errorf("too tame: %d times one was told, %d times several, %d woken, %d closed", one, several, woken, closed)
	}
}

// threads whose turns change few times, at any steps
func TestFewChanges(t *testing.T) {
	for _, x := range trial.SmallPlays() {
		for first := range 34 {
			for second := range 28 {
				for _, third := range []int{0, 1, 3, 8} {
					follows(t, slices.Concat(times(first, 0), times(second, 1), times(third, 0), times(80, -1)), x.Recipes, x.Scripts)
				}
			}
		}
	}
}

// likewise against the model, under any schedules
func TestSmall(t *testing.T) {
	r := trial.Row(12)
	for _, x := range trial.SmallPlays() {
		for range 150 {
			schedule := make([]int, 60)
			for i := range schedule {
				schedule[i] = r.Below(len(x.Scripts))
			}
			hold(t, schedule, plays(t, schedule, x.Recipes, x.Scripts), x.Recipes, x.Scripts)
		}
	}
}

// whatever the schedule: all orders there are, against the model, too
func TestInAllOrders(t *testing.T) {
	l := recipes(failing(0, 3))
	for i, x := range []struct {
		l     []api.Recipe
		calls [][]api.Call
	}{
		{recipes(gives(1, 1)), scripts(script(shut(0)), script(shut(0)))},
		{recipes(gives(1, 1)), scripts(script(shut(0)), script(ask(0, 0), shut(0)))},
		{l, scripts(script(ask(0, 0)), script(shut(0)))},
		{recipes(gives(0, 3, 0)), scripts(script(shut(0)), script(ask(0, 0)))},
		{recipes(gives(1, 3)), scripts(script(open(0)), script(ask(1, 1), open(1)))},
	} {
		many := 0
		for schedule := range trial.Tree(x.l, x.calls).Schedules {
			hold(t, schedule, plays(t, schedule, x.l, x.calls), x.l, x.calls)
			many++
		}
		if many < 100 {
			t.Errorf("%d: %d orders", i, many)
		}
	}
}

func TestFollowsAtTheLimits(t *testing.T) {
	r := trial.Row(6)
	all := append(trial.GreatRecipes(), r.RingRecipes(10), r.RingRecipes(50))
	for _, schedule := range [][]int{nil, times(4000, 7, -3, 2, 2, 100)} {
		for _, l := range all {
			calls := make([][]api.Call, api.MaxThreads)
			for thread := range calls {
				for i := range api.MaxCalls {
					calls[thread] = append(calls[thread], script(ask(r.Below(i+1), r.Below(len(l))), open(r.Below(i+1)), ask(r.Below(8), r.Below(len(l))))[r.Below(3)])
				}
				calls[thread][r.One(20, 60)] = shut(r.Below(20))
			}
			calls[3][63] = shut(0)
			follows(t, schedule, l, calls)
		}
	}
}

// freely, and not alone: whoever asks, opens and closes at one time, all that the answers tell is as it must be. By turns first, since freely a ring that is not seen would never end.
func TestManyFreely(t *testing.T) {
	r := trial.Row(7)
	for i := range 300 {
		l := r.RingRecipes(r.One(1, 2, 3))
		if i%2 == 0 {
			l = r.FlatRecipes(r.One(2, 5, 20))
		}
		calls := make([][]api.Call, r.One(2, 3, 4))
		for thread := range calls {
			calls[thread] = script(ask(0, r.Below(len(l))), open(0), ask(r.Below(3), r.Below(len(l))), ask(r.Below(3), r.Below(len(l)+1)), shut(r.Below(3)), ask(0, 0))
		}
		follows(t, nil, l, calls)
		var free *turn.World
		s := made(t, free, l)
		p := trial.Played{Told: trial.Told{Answers: trial.Calls(free, calls, does(s))}, Recipes: l, Scripts: calls}
		if err := p.FollowsFreely(); err != nil {
			t.Fatalf("%v of %v: %v: %v", calls, l, err, p.Answers)
		}
		last := s.Close(turn.Free(200))
		if kid, e := s.Open(turn.Free(200)); s.Close(turn.Free(201)) != last || kid != nil || e != api.ErrScopeShut {
			t.Fatal(calls, l, last, e)
		}
	}
}
