package crew_test

import (
	"reflect"
	"slices"
	"testing"

	"butler/api"
	"butler/crew"
	"butler/trial"
)

// P16.3

var mark = api.Call{Op: -77, A: 99, B: 98, C: 97}

// roomy are these jobs with spare room everywhere, in which something stands.
func roomy(l []api.Job) []api.Job {
	out := slices.Clone(l)
	for i, job := range out {
		calls := slices.Clone(job.Scripts)
		for thread := range calls {
			calls[thread] = trial.Roomy(mark, calls[thread]...)
		}
		out[i] = api.Job{Recipes: trial.RoomyRecipes(job.Recipes), Scripts: trial.Roomy(script(mark), calls...)}
	}
	return trial.Roomy(api.Job{Scripts: scripts(script(mark))}, out...)
}

// whole are jobs with all their spare room, in new memory.
func whole(l []api.Job) []api.Job {
	out := slices.Clone(l[:cap(l)])
	for i, job := range out {
		calls := slices.Clone(job.Scripts[:cap(job.Scripts)])
		for thread := range calls {
			calls[thread] = slices.Clone(calls[thread][:cap(calls[thread])])
		}
		out[i] = api.Job{Recipes: trial.WholeRecipes(job.Recipes), Scripts: calls}
	}
	return out
}

// spoil writes jobs over, so that they say something else.
func spoil(l []api.Job) {
	for i, job := range l {
		trial.SpoilRecipes(job.Recipes)
		for thread := range job.Scripts {
			for n := range job.Scripts[thread] {
				job.Scripts[thread][n] = mark
			}
			job.Scripts[thread] = nil
		}
		l[i] = api.Job{}
	}
}

// copied are answers in new memory.
func copied(told [][][]api.Answer) [][][]api.Answer {
	out := slices.Clone(told)
	for i := range out {
		out[i] = slices.Clone(out[i])
		for thread := range out[i] {
			out[i][thread] = slices.Clone(out[i][thread])
		}
	}
	return out
}

// overlap tells whether two of these lists share memory, spare room too. It writes into each which one it is to see.
func overlap[T any](lists [][][]T) bool {
	for i, l := range lists {
		for k := range l[:cap(l)] {
			l[:cap(l)][k] = make([]T, i)
		}
	}
	for i, l := range lists {
		if slices.ContainsFunc(l[:cap(l)], func(x []T) bool { return len(x) != i }) {
			return true
		}
	}
	return false
}

// shares tells whether lists of answers share memory, those of threads, of jobs, or of whole Runs. It writes them over to see.
func shares(told ...[][][]api.Answer) bool {
	jobs := slices.Concat(told...)
	return trial.Shares(slices.Concat(jobs...)) || overlap(jobs) || overlap(told)
}

// who looks for memory that is shared finds it
func TestShares(t *testing.T) {
	list := func() [][]api.Answer { return all(answers(fine(1), fine(2)), nil, answers(fine(3))) }
	one, two, same := list(), list(), list()
	same[2] = one[0][1:]
	row := [][][]api.Answer{list(), list(), list()}
	for i, x := range []struct {
		told [][][][]api.Answer
		want bool
	}{
		{[][][][]api.Answer{{list(), list()}, {list()}, nil, {}}, false},
		{[][][][]api.Answer{{one, same}}, true}, {[][][][]api.Answer{{one}, {same}}, true},
		{[][][][]api.Answer{{two, two}}, true}, {[][][][]api.Answer{{two[:1], two[2:]}}, true},
		{[][][][]api.Answer{row[:1], row[1:]}, true},
	} {
		if got := shares(x.told...); got != x.want {
			t.Errorf("%d: %v", i, got)
		}
	}
}

// what is handed in is not changed, nor its spare room; what was answered hangs on it no more, nor does a Run on another one
func TestMemory(t *testing.T) {
	r := trial.Row(8)
	for i := range 100 {
		var plain []api.Job
		for range r.One(1, 3, 20, api.MaxJobs) {
			plain = append(plain, loneJob(&r), sureJob(&r))
		}
		plain = plain[:min(len(plain), api.MaxJobs)]
		workers := manyWorkers()[i%len(manyWorkers())]
		l := roomy(plain)
		given := whole(l)
		told, again := runs(t, l, workers), runs(t, l, workers)
		if !reflect.DeepEqual(whole(l), given) {
			t.Fatalf("the jobs were changed: %v, they were %v", whole(l), given)
		}
		want := copied(told)
		spoil(l)
		if !sameAll(told, want) || !sameAll(again, want) {
			t.Fatal("what was answered hangs on what was handed in")
		}
		if shares(told, again) {
			t.Fatal("lists of the answers share memory")
		}
		if third := runs(t, plain, workers); !sameAll(third, want) {
			t.Fatalf("another time otherwise: %v, not %v", third, want)
		}
	}
}

// likewise of jobs that are refused, and of too many
func TestMemoryRefused(t *testing.T) {
	for _, x := range wrongs() {
		for _, l := range [][]api.Job{jobs(x.job, example(), x.job), times(api.MaxJobs+1, x.job)} {
			l = roomy(l)
			given := whole(l)
			if told, e := crew.Run(l, 2); e == api.OK || len(told) != 0 || !reflect.DeepEqual(whole(l), given) {
				t.Errorf("%v, error %d: the jobs are %v, they were %v", told, e, whole(l), given)
			}
		}
	}
}

// jobs that are one and the same list, of scripts that are, are answered in memory of their own
func TestSameJobs(t *testing.T) {
	same := script(open(0), ask(1, 1))
	job := api.Job{Recipes: example().Recipes, Scripts: scripts(same, same, nil, same)}
	for _, workers := range manyWorkers() {
		told := runs(t, times(api.MaxJobs, job), workers)
		if shares(told) {
			t.Error(workers, "lists of the answers share memory")
		}
	}
}

// W5: no list and an empty one are the same
func TestEmpty(t *testing.T) {
	some, none := api.Job{Recipes: recipes(gives(0, 5)), Scripts: scripts(script(), script(ask(0, 0)))}, api.Job{Recipes: recipes(gives(0, 5)), Scripts: scripts(nil, script(ask(0, 0)))}
	some.Recipes[0].Needs = []int{}
	for _, workers := range manyWorkers() {
		a, b := runs(t, jobs(some), workers), runs(t, jobs(none), workers)
		if !sameAll(a, b) || !sameAll(a, [][][]api.Answer{all(nil, answers(fine(5)))}) {
			t.Error(a, b)
		}
		for _, job := range jobs(api.Job{Recipes: some.Recipes, Scripts: scripts()}, api.Job{Recipes: some.Recipes}) {
			refuses(t, jobs(job), workers, api.ErrArg)
		}
		for _, job := range jobs(api.Job{Recipes: recipes(), Scripts: some.Scripts}, api.Job{Scripts: some.Scripts}) {
			refuses(t, jobs(job), workers, api.ErrRecipe)
		}
	}
}
