package crew_test

import (
	"slices"
	"testing"

	"butler/api"
	"butler/crew"
	"butler/house"
	"butler/trial"
)

// P16.1: which jobs are refused, and by which error.

// wrong is a job that house.Play refuses, and by which error.
type wrong struct {
	job   api.Job
	error api.Errno
}

// wrongs are such, each wrong in another way; some in several.
func wrongs() []wrong {
	right, long := example(), make([]api.Call, api.MaxCalls+1)
	nine := times(api.MaxThreads+1, script(ask(0, 0)))
	var out []wrong
	for _, x := range trial.WrongRecipes() {
		out = append(out, wrong{api.Job{Recipes: x.Recipes, Scripts: right.Scripts}, x.Error}, wrong{api.Job{Recipes: x.Recipes, Scripts: scripts(nil)}, x.Error})
	}
	tooMany := make([]api.Recipe, api.MaxKeys+1)
	for _, l := range [][]api.Recipe{right.Recipes, nil, tooMany} {
		for _, calls := range [][][]api.Call{nil, {}, nine, make([][]api.Call, 100)} {
			out = append(out, wrong{api.Job{Recipes: l, Scripts: calls}, api.ErrArg})
		}
		for _, calls := range [][][]api.Call{{long}, {right.Scripts[0], nil, long}, {times(20, long...)}, append(slices.Clone(nine), long)} {
			out = append(out, wrong{api.Job{Recipes: l, Scripts: calls}, api.ErrLong})
		}
	}
	return out
}

// refuses asks for that error, and no answers.
func refuses(t *testing.T, l []api.Job, workers int, want api.Errno) {
	t.Helper()
	if told, e := crew.Run(l, workers); e != want || len(told) != 0 {
		t.Fatalf("%d workers, %d jobs: %d answers, error %d, not %d", workers, len(l), len(told), e, want)
	}
}

// one job that is refused, alone, first, in the middle and last
func TestOneRefused(t *testing.T) {
	for i, x := range wrongs() {
		if _, e := house.Play(nil, x.job.Recipes, x.job.Scripts); e != x.error {
			t.Fatalf("house.Play of the wrong job %d: error %d", i, e)
		}
		for _, workers := range manyWorkers() {
			refuses(t, jobs(x.job), workers, x.error)
			for _, many := range []int{2, 9, api.MaxJobs} {
				for _, at := range []int{0, many / 2, many - 1} {
					l := times(many, example())
					l[at] = x.job
					refuses(t, l, workers, x.error)
				}
			}
		}
	}
}

// by hand: of several that are refused the first one tells, not what is too long, nor the least number
func TestFirstByHand(t *testing.T) {
	none, long, wrong := example(), example(), example()
	none.Scripts, long.Scripts, wrong.Recipes = nil, scripts(make([]api.Call, 65)), nil
	for _, workers := range manyWorkers() {
		refuses(t, jobs(none, long, wrong), workers, api.ErrArg)
		refuses(t, jobs(long, none, wrong), workers, api.ErrLong)
		refuses(t, jobs(wrong, long, none), workers, api.ErrRecipe)
		refuses(t, jobs(example(), wrong, none, long), workers, api.ErrRecipe)
		refuses(t, jobs(example(), none, example(), long, example()), workers, api.ErrArg)
		refuses(t, append(times(62, example()), wrong, long), workers, api.ErrRecipe)
		refuses(t, jobs(api.Job{}, long), workers, api.ErrArg)
	}
}

// many rows with several that are refused, by different errors, among others that take their time
func TestFirstRefused(t *testing.T) {
	r, bad := trial.Row(2), wrongs()
	met := map[api.Errno]int{}
	for range 3000 {
		want, l := api.OK, make([]api.Job, r.One(2, 3, 8, api.MaxJobs))
		often := r.One(1, 2, 10)
		for i := range l {
			if l[i] = example(); r.Below(3) == 0 {
				l[i] = treeJob(&r, 3)
			}
			if r.Below(often) == 0 || i == len(l)-1 && want == api.OK {
				x := bad[r.Below(len(bad))]
				if l[i] = x.job; want == api.OK {
					want = x.error
				}
			}
		}
		met[want]++
		refuses(t, l, r.One(manyWorkers()...), want)
	}
	if len(met) != 3 || min(met[api.ErrArg], met[api.ErrLong], met[api.ErrRecipe]) < 300 {
		t.Errorf("too tame: %v", met)
	}
}

// slowlyRefused is a job that is looked through for long till it is refused.
func slowlyRefused() api.Job {
	l := times(api.MaxKeys, gives(0, 1, times(api.MaxNeeds, 99)...))
	l[99] = gives(0, 1, 100)
	return api.Job{Recipes: l, Scripts: scripts(nil)}
}

// which one is refused first in time does not count: one that is refused slowly stands ahead of others that are refused at once, behind some that keep the workers busy
func TestNotInTime(t *testing.T) {
	quick := example()
	quick.Scripts = nil
	for _, workers := range manyWorkers() {
		for ahead := range 4 {
			l := slices.Concat(times(ahead, example()), jobs(slowlyRefused()), times(30, quick))
			for range 200 {
				refuses(t, l, workers, api.ErrRecipe)
			}
		}
	}
}
