package house_test

import (
	"slices"
	"testing"

	"butler/api"
	"butler/trial"
)

// P15.4: whoever goes, a Play of no world ends, and its answers are those of some order of steps.

// playsTogether is a free Play of threads that meet. The answers are without the one that lets them.
func playsTogether(t *testing.T, l []api.Recipe, calls [][]api.Call) [][]api.Answer {
	t.Helper()
	slow, late := trial.Together(l, calls)
	out := playsFreely(t, slow, late)
	for thread, told := range out {
		if told[0] != fine(0) && told[0] != isShut {
			t.Fatal(told[0])
		}
		out[thread] = told[1:]
	}
	return out
}

// the chapter's third example, and others whose answers hang on no order
func TestExamplesFreely(t *testing.T) {
	for i, x := range []struct {
		l       []api.Recipe
		calls   [][]api.Call
		answers [][]api.Answer
	}{
		{example(), scripts(script(ask(0, 0)), script(ask(0, 0))), all(answers(fine(5)), answers(fine(5)))},
		{example(), scripts(script(ask(0, 0), open(0), ask(1, 2), shut(0), ask(1, 2))), all(answers(fine(5), fine(1), fine(18), fine(0), isShut))},
		{recipes(gives(0, 5), gives(0, 7, 0)), times(8, script(ask(0, 1), ask(0, 0), ask(0, 2), ask(1, 0))), times(8, answers(fine(12), fine(5), noKey, noScope))},
		{recipes(gives(0, 1, 0)), times(8, script(ask(0, 0))), times(8, answers(ring(0)))},
		{recipes(panics(0, -3), failing(0, 4), gives(0, 1, 0), gives(0, 1, 1)), times(8, script(ask(0, 0), ask(0, 1), ask(0, 2), ask(0, 3))),
			times(8, answers(panicked(-3), failed(4), lacks(0), lacks(1)))},
		{recipes(gives(1, 1)), times(8, script(shut(0), ask(0, 0), open(0), shut(0))), times(8, answers(fine(0), noKey, isShut, fine(0)))},
	} {
		for range 50 {
			if got := playsFreely(t, x.l, x.calls); !trial.Same(got, x.answers) {
				t.Fatalf("%d: %v", i, got)
			}
		}
	}
}

// where there is no Op 3: each ask in the root is answered as Fate says
func TestFateFreely(t *testing.T) {
	r := trial.Row(11)
	can, cannot := 0, 0
	for range 500 {
		l := r.FlatRecipes(r.One(1, 2, 5, 20, 100))
		if r.Below(3) == 0 {
			l = r.RingRecipes(r.One(1, 2, 3, 10))
		}
		calls := make([][]api.Call, r.One(2, 4, api.MaxThreads))
		for thread := range calls {
			for range r.One(2, 5, 20, api.MaxCalls) {
				calls[thread] = append(calls[thread], script(ask(0, r.Below(len(l))), ask(r.Below(4), r.Below(len(l))), open(r.Below(3)))[r.One(0, 0, 0, 1, 2)])
			}
		}
		for thread, told := range playsFreely(t, l, calls) {
			for i, x := range told {
				c := calls[thread][i]
				if c.Op != 1 || c.A != 0 || l[c.B].Level != 0 {
					continue
				}
				if !asFate(l, c.B, x) {
					t.Fatalf("the key %d of %v, %v: %v", c.B, l, calls, x)
				}
				can += trial.Number(x.Code == api.OK)
				cannot += trial.Number(x.Code != api.OK)
			}
		}
	}
	if can < 5000 || cannot < 5000 {
		t.Errorf("too tame: %d can be built, %d can't", can, cannot)
	}
}

// many threads, many times: rings, failures, panics, Opens and Closes. It always ends.
func TestAllFreely(t *testing.T) {
	r, c := trial.Row(12), codes{}
	for i := range 1500 {
		l := r.FlatRecipes(r.One(2, 4, 8, 30))
		if i%3 == 0 {
			l = r.RingRecipes(r.One(1, 2, 3, 3, 5))
		}
		calls := r.TreeScripts(len(l), api.MaxThreads, r.One(3, 10, 40), 1, 2)
		c.of(playsFreely(t, l, calls))
	}
	if c.least() < 100 {
		t.Errorf("the Plays are too tame: %v", c)
	}
}

// likewise threads that get into each other's way, as often as they can
func TestSmallFreely(t *testing.T) {
	for _, x := range trial.SmallPlays() {
		for range 200 {
			playsFreely(t, x.Recipes, x.Scripts)
			playsTogether(t, x.Recipes, x.Scripts)
		}
	}
}

// each answer is one that a schedule could give: they are held against all that any order of steps comes to
func TestSomeOrder(t *testing.T) {
	ends := recipes(ending(gives(0, 1), 1), ending(gives(0, 2, 0), 2), gives(0, 3, 1))
	for i, x := range []struct {
		l     []api.Recipe
		calls [][]api.Call
		many  int
	}{
		{recipes(gives(1, 1)), scripts(script(shut(0)), script(shut(0))), 1},
		{ends, scripts(script(ask(0, 2), shut(0)), script(shut(0), ask(0, 2))), 2},                      // closings that fail and panic
		{recipes(gives(0, 1), gives(1, 2, 0)), scripts(script(open(0), ask(1, 1)), script(shut(0))), 3}, // the parent is closed under a kid's Ask
		{recipes(gives(1, 3)), scripts(script(open(0)), script(ask(1, 0), open(1), shut(1))), 4},        // a scope that is not ready yet
		{recipes(gives(0, 1, 1), gives(0, 1, 0)), scripts(script(ask(0, 0)), script(ask(0, 1))), 3},     // a ring
		{recipes(panics(0, 3), gives(0, 1, 0)), scripts(script(ask(0, 1)), script(ask(0, 0))), 1},
	} {
		could := trial.Tree(x.l, x.calls).Outcomes()
		if len(could) != x.many {
			t.Errorf("%d: %v", i, could)
		}
		for range 300 {
			got := playsTogether(t, x.l, x.calls)
			if !slices.ContainsFunc(could, func(a [][]api.Answer) bool { return trial.Same(got, a) }) {
				t.Fatalf("%d: %v is none of %v", i, got, could)
			}
		}
	}
}

// rings of two and of three, met from several sides: who is told of the ring, and who of a need, is left open; but one at least is told of the ring
func TestRingsFreely(t *testing.T) {
	for many := 1; many <= 3; many++ {
		l := make([]api.Recipe, many)
		calls := make([][]api.Call, 2*many)
		for key := range l {
			l[key] = gives(0, 1, (key+1)%many)
			calls[key], calls[key+many] = script(ask(0, key)), script(open(0), ask(0, (key+1)%many), ask(1, key))
		}
		for range 300 {
			told := 0
			for thread, x := range playsTogether(t, l, calls) {
				for i, a := range x {
					c := calls[thread][i]
					if need := (c.B + 1) % many; c.Op == 1 && a != ring(need) && a != lacks(need) && a != noScope {
						t.Fatal(many, c, a)
					}
					told += trial.Number(a.Code == api.ErrBoxRing)
				}
			}
			if told == 0 {
				t.Fatal(many, "nobody is told of the ring")
			}
		}
	}
}
