package crew_test

import (
	"errors"
	"slices"
	"strconv"
	"testing"

	"butler/api"
	"butler/recipe"
	"butler/trial"
)

// P16.4

// asFate is nil, if in a job without Close each Ask is answered as Fate says, as far as the scope is there and the key's Level is not above the scope's.
func asFate(job api.Job, told [][]api.Answer) error {
	lines := played(job, told).Lines()
	for thread, calls := range job.Scripts {
		known := map[int]int{0: 1} // scopes of which the thread knows that they are there
		for i, c := range calls {
			x := told[thread][i]
			if c.Op == 2 && x.Code == api.OK {
				known[x.Value]++
			}
			if c.Op != 1 || x == noScope && known[c.A] == 0 {
				continue
			}
			if known[c.A]++; !rightly(job.Recipes, c.B, len(lines[c.A]), x) {
				return errors.New("the call " + strconv.Itoa(i) + " of the thread " + strconv.Itoa(thread))
			}
		}
	}
	return nil
}

// rightly tells whether that may be answered of a key in a scope with so many Levels, its own and those above it.
func rightly(l []api.Recipe, key, levels int, x api.Answer) bool {
	can, gives := recipe.Fate(l, key)
	switch {
	case levels == 0:
		return false
	case key < 0 || key >= len(l) || l[key].Level >= levels:
		return x == noKey
	case can:
		return x == fine(gives)
	}
	return slices.Contains([]api.Errno{api.ErrOnceFail, api.ErrOncePanic, api.ErrBoxRing, api.ErrBoxNeed}, x.Code)
}

// whoever reads an answer sees what is wrong with it
func TestAsFateSees(t *testing.T) {
	job := api.Job{
		Recipes: recipes(gives(0, 5), gives(1, 7, 0), gives(0, 1, 2), acting(gives(0, 3), 1)),
		Scripts: scripts(script(ask(0, 0), open(0), ask(1, 1), ask(0, 1), ask(1, 2), ask(0, 3), ask(7, 0)), script(ask(1, 0), ask(1, 1))),
	}
	lacks, failed := answer(api.ErrBoxNeed, 2), answer(api.ErrOnceFail, 3)
	told := all(answers(fine(5), fine(1), fine(12), noKey, lacks, failed, noScope), answers(noScope, fine(12)))
	if err := asFate(job, told); err != nil {
		t.Error(err)
	}
	for _, x := range []struct {
		thread, call int
		wrong        api.Answer
	}{
		{0, 0, fine(6)}, {0, 0, noScope}, {0, 0, isShut}, {0, 0, noKey}, {0, 0, answer(api.ErrOnceFail, 5)}, {0, 0, answer(api.ErrStuck, 0)},
		{0, 1, isShut}, {0, 2, fine(7)}, {0, 2, noScope}, {0, 3, fine(12)}, {0, 3, noScope}, {0, 4, fine(1)}, {0, 4, isShut}, {0, 5, fine(3)}, {0, 5, noScope},
		{0, 6, fine(5)}, {0, 6, noKey}, {1, 0, isShut}, {1, 0, fine(12)}, {1, 1, isShut}, {1, 1, noKey},
	} {
		wrong := all(slices.Clone(told[0]), slices.Clone(told[1]))
		if wrong[x.thread][x.call] = x.wrong; asFate(job, wrong) == nil {
			t.Error("it does not see", x)
		}
	}
	if wrong := all(told[0], answers(fine(5), noScope)); asFate(job, wrong) == nil {
		t.Error("it does not see that a scope is gone")
	}
}

// openJob is one of all kinds but that nobody closes.
func openJob(r *trial.Row) api.Job {
	job := treeJob(r, api.MaxThreads)
	for thread, calls := range job.Scripts {
		job.Scripts[thread] = slices.DeleteFunc(calls, func(c api.Call) bool { return c.Op == 3 })
	}
	if r.Below(2) == 0 {
		return met(job)
	}
	return job
}

// many jobs without Close, among others that have some, or are great
func TestFate(t *testing.T) {
	r, can, cannot, within := trial.Row(6), 0, 0, 0
	for i := range 120 {
		l := make([]api.Job, r.One(1, 5, 30, api.MaxJobs))
		for k := range l {
			if l[k] = openJob(&r); k%7 == 6 {
				l[k] = jobs(treeJob(&r, 4), busyJob())[k%2]
			}
		}
		for k, told := range runs(t, l, manyWorkers()[i%len(manyWorkers())]) {
			if k%7 == 6 {
				continue
			}
			if err := asFate(l[k], told); err != nil {
				t.Fatalf("%v of %v: %v", err, l[k], told)
			}
			for thread, calls := range l[k].Scripts {
				for n, c := range calls {
					x := told[thread][n]
					can += trial.Number(c.Op == 1 && x.Code == api.OK)
					cannot += trial.Number(c.Op == 1 && x.Code != api.OK && x != noScope && x != noKey)
					within += trial.Number(c.Op == 1 && x.Code == api.OK && c.A > 0)
				}
			}
		}
	}
	if min(can, cannot) < 2000 || within < 200 {
		t.Errorf("too tame: %d can be built, %d can't, %d were asked for in a kid", can, cannot, within)
	}
}

// P16.5

// fineOnes are the calls that were answered by OK, and their Values: of each thread and place.
func fineOnes(told [][]api.Answer) map[[2]int]int {
	out := map[[2]int]int{}
	for thread, a := range told {
		for i, x := range a {
			if x.Code == api.OK {
				out[[2]int{thread, i}] = x.Value
			}
		}
	}
	return out
}

// equal jobs without Close and Open, side by side and among others: rings too, of which each may tell otherwise
func TestEqualJobs(t *testing.T) {
	r, fine := trial.Row(7), 0
	for i := range 200 {
		job := treeJob(&r, api.MaxThreads)
		if i%4 == 0 { // a ring of two, asked for from both sides, beside what can be built
			job = api.Job{Recipes: recipes(gives(0, 1, 1), gives(0, 2, 0), gives(0, 3, 3), gives(0, 4))}
			for thread := range api.MaxThreads {
				job.Scripts = append(job.Scripts, script(ask(0, thread%2), ask(0, 1-thread%2), ask(0, 3), ask(0, 2)))
			}
		}
		for thread, calls := range job.Scripts {
			job.Scripts[thread] = slices.DeleteFunc(calls, func(c api.Call) bool { return c.Op == 2 || c.Op == 3 })
		}
		job = met(job)
		l := times(r.One(2, 10, 20), job, loneJob(&r), job)
		told := runs(t, l, manyWorkers()[i%len(manyWorkers())])
		want := fineOnes(told[0])
		for k := range l {
			if k%3 == 1 {
				continue
			}
			if got := fineOnes(told[k]); len(got) != len(want) || !sameNumbers(got, want) {
				t.Fatalf("%v: one is answered by %v, one by %v", job, told[0], told[k])
			}
		}
		fine += len(want)
	}
	if fine < 2000 {
		t.Errorf("too tame: %d calls are OK", fine)
	}
}

func sameNumbers(a, b map[[2]int]int) bool {
	for at, v := range a {
		if w, ok := b[at]; !ok || v != w {
			return false
		}
	}
	return true
}
