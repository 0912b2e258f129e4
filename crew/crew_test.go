package crew_test

import (
	"math"
	"slices"
	"testing"

	"butler/api"
	"butler/crew"
	"butler/house"
	"butler/recipe"
	"butler/trial"
)

func gives(level, v int, needs ...int) api.Recipe {
	return api.Recipe{Level: level, Needs: needs, Value: v}
}

// acting is a recipe with another Act, ending one with another End.
func acting(r api.Recipe, act int) api.Recipe {
	r.Act = act
	return r
}

func ending(r api.Recipe, end int) api.Recipe {
	r.End = end
	return r
}

func recipes(l ...api.Recipe) []api.Recipe { return l }

func ask(scope, key int) api.Call { return api.Call{Op: 1, A: scope, B: key} }
func open(scope int) api.Call     { return api.Call{Op: 2, A: scope} }
func shut(scope int) api.Call     { return api.Call{Op: 3, A: scope} }

// script is calls, one behind the other; scripts are those of several threads.
func script(l ...api.Call) []api.Call      { return l }
func scripts(l ...[]api.Call) [][]api.Call { return l }
func jobs(l ...api.Job) []api.Job          { return l }
func answers(l ...api.Answer) []api.Answer { return l }
func all(l ...[]api.Answer) [][]api.Answer { return l }
func times[T any](many int, l ...T) []T    { return slices.Repeat(l, many) }
func answer(e api.Errno, v int) api.Answer { return api.Answer{Code: e, Value: v} }
func fine(v int) api.Answer                { return answer(api.OK, v) }
func sameAll(a, b [][][]api.Answer) bool   { return slices.EqualFunc(a, b, trial.Same) }
func count[T any](l []T, is func(x T) bool) int {
	return len(l) - len(slices.DeleteFunc(slices.Clone(l), is))
}

var (
	noKey   = answer(api.ErrHouseKey, 0)
	noScope = answer(api.ErrHouseScope, 0)
	isShut  = answer(api.ErrScopeShut, 0)
	arg     = answer(api.ErrArg, 0)
)

// example is the chapter's (R, S), and what it answers.
func example() api.Job {
	return api.Job{Recipes: recipes(gives(0, 5), gives(0, 7, 0)), Scripts: scripts(script(ask(0, 1)), script(ask(0, 1), ask(0, 0)))}
}

func exampleTold() [][]api.Answer { return all(answers(fine(12)), answers(fine(12), fine(5))) }

// manyWorkers are numbers of workers that may be: the ends, and some between.
func manyWorkers() []int { return []int{1, 2, 3, 7, api.MaxWorkers - 1, api.MaxWorkers} }

// wrongWorkers are such as may not be; some look like those that may, cut off.
func wrongWorkers() []int {
	return []int{0, -1, -api.MaxWorkers, api.MaxWorkers + 1, 100, 1 << 8, 1<<16 + 1, 1 << 32, 1<<32 + 2, math.MaxInt, math.MinInt, math.MinInt + 1}
}

// runs carries jobs out that may not be refused, and asks of each for all that follows, whoever goes.
func runs(t *testing.T, l []api.Job, workers int) [][][]api.Answer {
	t.Helper()
	told, e := crew.Run(l, workers)
	if e != api.OK || len(told) != len(l) {
		t.Fatalf("%d workers, %d jobs: %d answers, error %d", workers, len(l), len(told), e)
	}
	for i, job := range l {
		if !slices.EqualFunc(told[i], job.Scripts, func(a []api.Answer, calls []api.Call) bool { return len(a) == len(calls) }) {
			t.Fatalf("the job %d, %v: %v", i, job, told[i])
		}
		if err := played(job, told[i]).FollowsFreely(); err != nil {
			t.Fatalf("the job %d: %v: %v: %v", i, err, job, told[i])
		}
	}
	return told
}

func played(job api.Job, told [][]api.Answer) trial.Played {
	return trial.Played{Told: trial.Told{Answers: told}, Recipes: job.Recipes, Scripts: job.Scripts}
}

// treeJob is a job of all kinds: rings, builds that fail and panic, Opens and Closes, Ops that there are not.
func treeJob(r *trial.Row, threads int) api.Job {
	l := r.FlatRecipes(r.One(1, 2, 3, 6, 12))
	if r.Below(3) == 0 {
		l = r.RingRecipes(r.One(1, 2, 3, 4))
	}
	return api.Job{Recipes: l, Scripts: r.TreeScripts(len(l), threads, r.One(2, 5, 12), r.One(1, 2, 3), r.One(1, 0, 4, -1))}
}

// loneJob is one with one thread, which is answered but in one way.
func loneJob(r *trial.Row) api.Job {
	job := treeJob(r, 3)
	job.Scripts = scripts(slices.Concat(job.Scripts...))
	return job
}

// sureJob is one with many threads, each of which is answered but in one way: nobody opens or closes, and no key is in a ring.
func sureJob(r *trial.Row) api.Job {
	l := r.FlatRecipes(r.One(1, 3, 10, 40))
	for len(recipe.Rings(l)) > 0 {
		l = r.FlatRecipes(r.One(1, 3, 10, 40))
	}
	job := api.Job{Recipes: l, Scripts: make([][]api.Call, 1+r.Below(api.MaxThreads))}
	for thread := range job.Scripts {
		for range r.Below(10) {
			c := script(ask(0, r.Below(len(l))), ask(r.Below(3), r.Below(len(l)+1)), api.Call{Op: r.One(0, 4, -1)})[r.One(0, 0, 0, 0, 1, 2)]
			job.Scripts[thread] = append(job.Scripts[thread], c)
		}
	}
	return job
}

// alone is what house.Play of no world answers of a job.
func alone(t *testing.T, job api.Job) [][]api.Answer {
	t.Helper()
	told, e := house.Play(nil, job.Recipes, job.Scripts)
	if e != api.OK {
		t.Fatal(job, e)
	}
	return told
}

// P16.1

// the chapter's examples
func TestExamples(t *testing.T) {
	none := example()
	none.Recipes = nil
	for i, x := range []struct {
		l       []api.Job
		workers int
		told    [][][]api.Answer
		error   api.Errno
	}{
		{jobs(example()), 1, times(1, exampleTold()), api.OK},
		{times(3, example()), 2, times(3, exampleTold()), api.OK},
		{nil, 16, nil, api.OK},
		{jobs(example()), 0, nil, api.ErrArg},
		{jobs(example()), 17, nil, api.ErrArg},
		{times(65, example()), 0, nil, api.ErrLong},
		{jobs(example(), none), 2, nil, api.ErrRecipe},
	} {
		for range 20 {
			if told, e := crew.Run(x.l, x.workers); e != x.error || !sameAll(told, x.told) {
				t.Fatalf("%d: %v, error %d", i, told, e)
			}
		}
	}
}

// no jobs, one, and as many as there may be; by each number of workers that may be, few or more than there are jobs
func TestMany(t *testing.T) {
	for workers := 1; workers <= api.MaxWorkers; workers++ {
		for _, many := range []int{0, 1, 2, workers - 1, workers, workers + 1, api.MaxJobs - 1, api.MaxJobs} {
			if told := runs(t, times(many, example()), workers); !sameAll(told, times(many, exampleTold())) {
				t.Fatal(workers, many, told)
			}
		}
		if told, e := crew.Run([]api.Job{}, workers); e != api.OK || len(told) != 0 {
			t.Error(workers, told, e)
		}
	}
}

// a number of workers that may not be is refused, whatever the jobs: that is told ahead of what any of them is refused by
func TestWrongWorkers(t *testing.T) {
	long := example()
	long.Scripts = scripts(make([]api.Call, api.MaxCalls+1))
	for _, workers := range wrongWorkers() {
		for i, l := range [][]api.Job{nil, {}, jobs(example()), times(api.MaxJobs, example()), jobs(long), jobs(api.Job{}), jobs(api.Job{Scripts: long.Scripts}, example())} {
			if told, e := crew.Run(l, workers); e != api.ErrArg || len(told) != 0 {
				t.Errorf("%d workers, the jobs %d: %v, error %d", workers, i, told, e)
			}
		}
	}
}

// too many jobs are refused first, whatever the workers, and whatever the jobs
func TestTooManyJobs(t *testing.T) {
	for _, workers := range append(wrongWorkers(), manyWorkers()...) {
		for _, many := range []int{api.MaxJobs + 1, api.MaxJobs + 2, 2 * api.MaxJobs, 1<<8 + 1, 1 << 16} {
			for i, job := range jobs(example(), api.Job{}, api.Job{Scripts: scripts(nil)}) {
				if told, e := crew.Run(times(many, job), workers); e != api.ErrLong || len(told) != 0 {
					t.Errorf("%d workers, %d jobs %d: %d answers, error %d", workers, many, i, len(told), e)
				}
			}
		}
	}
}

// each job is answered in its place, though they do not end in their order: all of them are of other recipes and scripts, some great, some small
func TestInOrder(t *testing.T) {
	var l []api.Job
	var want [][][]api.Answer
	for i := range api.MaxJobs {
		job, told := api.Job{Recipes: recipes(gives(0, i), gives(0, 7, 0))}, [][]api.Answer(nil)
		for range 1 + i%api.MaxThreads {
			calls := (i*37 + len(told)) % api.MaxCalls
			job.Scripts, told = append(job.Scripts, times(calls, ask(0, 1), ask(0, 0))[:calls]), append(told, times(calls, fine(i+7), fine(i))[:calls])
		}
		l, want = append(l, job), append(want, told)
	}
	for _, workers := range manyWorkers() {
		for range 20 {
			if told := runs(t, l, workers); !sameAll(told, want) {
				t.Fatal(workers, told)
			}
			slices.Reverse(l)
			slices.Reverse(want)
		}
	}
}

// jobs that are answered but in one way are answered as house.Play does it of each alone
func TestAsAlone(t *testing.T) {
	r, codes := trial.Row(1), map[api.Errno]int{}
	for range 300 {
		l := make([]api.Job, r.One(1, 2, 5, 20, api.MaxJobs))
		want := make([][][]api.Answer, len(l))
		for i := range l {
			if l[i] = loneJob(&r); r.Below(2) == 0 {
				l[i] = sureJob(&r)
			}
			want[i] = alone(t, l[i])
			for _, x := range slices.Concat(want[i]...) {
				codes[x.Code]++
			}
		}
		if told := runs(t, l, r.One(manyWorkers()...)); !sameAll(told, want) {
			t.Fatalf("%v: %v, not %v", l, told, want)
		}
	}
	for _, e := range []api.Errno{api.OK, api.ErrArg, api.ErrOnceFail, api.ErrOncePanic, api.ErrBoxRing, api.ErrBoxNeed, api.ErrScopeShut, api.ErrHouseKey, api.ErrHouseScope} {
		if codes[e] < 500 {
			t.Errorf("the jobs are too tame: %v", codes)
		}
	}
}

// scripts without calls are answered by none; an Op that there is not by ErrArg, and the script goes on
func TestSmallScripts(t *testing.T) {
	l := example().Recipes
	for _, workers := range manyWorkers() {
		told := runs(t, jobs(
			api.Job{Recipes: l, Scripts: scripts(nil)}, api.Job{Recipes: l, Scripts: scripts(script(), nil, script(ask(0, 0)))},
			api.Job{Recipes: l, Scripts: make([][]api.Call, api.MaxThreads)}, api.Job{Recipes: l, Scripts: scripts(script(api.Call{Op: 4}, open(0), api.Call{}, ask(1, 1), ask(1, 2), ask(2, 0), shut(1), ask(1, 0)))},
		), workers)
		want := [][][]api.Answer{all(nil), all(nil, nil, answers(fine(5))), make([][]api.Answer, api.MaxThreads), all(answers(arg, fine(1), arg, fine(12), noKey, noScope, fine(0), isShut))}
		if !sameAll(told, want) {
			t.Error(workers, told)
		}
	}
}

// at the limits: as many jobs as there may be, each of as many threads, calls and keys
func TestGreatest(t *testing.T) {
	var l []api.Job
	for i := range api.MaxJobs {
		job := api.Job{Recipes: trial.GreatRecipes()[i%4], Scripts: make([][]api.Call, api.MaxThreads)}
		for thread := range job.Scripts {
			for n := range api.MaxCalls {
				job.Scripts[thread] = append(job.Scripts[thread], script(open(min(n/4, 6)), ask(n/2, 99-n), ask(n%3, n), open(n%9))[(n+thread+i)%4])
			}
		}
		if i%2 == 0 {
			job.Scripts[7][63], job.Scripts[6][63], job.Scripts[5][40] = shut(0), shut(0), shut(2)
		}
		l = append(l, job)
	}
	for _, workers := range []int{1, 4, api.MaxWorkers} {
		runs(t, l, workers)
	}
}
