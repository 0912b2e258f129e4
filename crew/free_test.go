package crew_test

import (
	"runtime"
	"slices"
	"strings"
	"sync"
	"testing"
	"time"

	"butler/api"
	"butler/crew"
	"butler/trial"
)

// P16.1 and P16.2: how the jobs go, side by side.

// looker sees what all goroutines are at.
type looker []byte

func newLooker() looker { return make(looker, 1<<24) }

// at tells how many goroutines are in a function, or a package, of that name.
func (l looker) at(name string) int {
	return strings.Count(string(l[:runtime.Stack(l, true)]), "\nbutler/"+name)
}

// working tells how many goroutines are at something that is done by a house.
func (l looker) working() int {
	return l.at("house.") + l.at("scope.") + l.at("play.")
}

// settles tells whether no more goroutines are left than there were. (One that has said that it ended may still be there for a moment.)
func settles(before int) bool {
	for range 5000 {
		if runtime.NumGoroutine() <= before {
			return true
		}
		time.Sleep(time.Millisecond)
	}
	return false
}

// busyJob is one that takes its time.
func busyJob() api.Job {
	l := trial.GreatRecipes()[0]
	job := api.Job{Recipes: l, Scripts: make([][]api.Call, api.MaxThreads)}
	for thread := range job.Scripts {
		for i := range api.MaxCalls {
			job.Scripts[thread] = append(job.Scripts[thread], ask(0, (thread*13+i*7)%len(l)))
		}
	}
	return job
}

// met lets the threads of a job meet, all behind an Ask of a key more.
func met(job api.Job) api.Job {
	l, calls := trial.Together(job.Recipes, job.Scripts)
	return api.Job{Recipes: l, Scripts: calls}
}

// behind is what the threads of a job that met were answered, but for that first Ask.
func behind(t *testing.T, told [][]api.Answer) [][]api.Answer {
	t.Helper()
	out := slices.Clone(told)
	for thread, a := range out {
		if a[0] != fine(0) && a[0] != isShut {
			t.Fatal(a)
		}
		out[thread] = a[1:]
	}
	return out
}

// side tells how many jobs are seen to be carried out at one time, while these are, and how often a thread is seen that goes by turns.
func (l looker) side(todo []api.Job, workers int) (most, turns int) {
	ended := make(chan int)
	go func() {
		defer close(ended)
		crew.Run(todo, workers)
	}()
	for {
		most, turns = max(most, l.at("house.Play(")), turns+l.at("turn.(*Thread).run(")
		select {
		case <-ended:
			return
		default:
			time.Sleep(time.Millisecond) // looking stops all others
		}
	}
}

// as many jobs are carried out at one time as there are workers, if there are enough of them; never more; and freely
func TestAtOneTime(t *testing.T) {
	see := newLooker()
	for workers := 1; workers <= api.MaxWorkers; workers++ {
		most := 0
		for round := 0; round < 2 || most < workers && round < 300; round++ {
			seen, turns := see.side(times(api.MaxJobs, busyJob()), workers)
			if most = max(most, seen); turns > 0 {
				t.Fatal("somebody goes by turns")
			}
		}
		if most != workers {
			t.Fatalf("%d workers: up to %d jobs at one time", workers, most)
		}
	}
}

// when Run answers nobody does anything any more, and no goroutine is left; whether jobs are refused or not
func TestNobodyLeft(t *testing.T) {
	see, r, bad := newLooker(), trial.Row(3), wrongs()
	if !settles(runtime.NumGoroutine()) || see.working() > 0 {
		t.Fatal("somebody is there already")
	}
	before, failed := runtime.NumGoroutine(), 0
	for i := range 400 {
		l := make([]api.Job, r.One(0, 1, 5, 20, api.MaxJobs))
		for k := range l {
			if l[k] = busyJob(); r.Below(2) == 0 {
				l[k] = met(treeJob(&r, api.MaxThreads))
			}
			if i%2 == 0 && r.Below(30) == 0 {
				l[k] = bad[r.Below(len(bad))].job
			}
		}
		workers := r.One(append(wrongWorkers(), slices.Repeat(manyWorkers(), 10)...)...)
		told, e := crew.Run(l, workers)
		if n := see.working(); n > 0 {
			t.Fatalf("%d workers, %d jobs, error %d: somebody is still at work, at %d calls", workers, len(l), e, n)
		}
		if !settles(before) {
			t.Fatalf("%d workers, %d jobs, %d answers, error %d: there were %d goroutines, there are %d", workers, len(l), len(told), e, before, runtime.NumGoroutine())
		}
		failed += trial.Number(e != api.OK)
	}
	if failed < 50 || failed > 350 {
		t.Errorf("too tame: %d refused", failed)
	}
}

// many jobs of all kinds, many times: rings, failures, panics, Opens and Closes. Run always answers.
func TestAll(t *testing.T) {
	r, codes := trial.Row(4), map[api.Errno]int{}
	for range 150 {
		l := make([]api.Job, r.One(2, 10, api.MaxJobs))
		for i := range l {
			if l[i] = treeJob(&r, api.MaxThreads); r.Below(2) == 0 {
				l[i] = met(l[i])
			}
		}
		for _, told := range runs(t, l, r.One(manyWorkers()...)) {
			for _, x := range slices.Concat(told...) {
				codes[x.Code]++
			}
		}
	}
	for _, e := range []api.Errno{api.OK, api.ErrArg, api.ErrOnceFail, api.ErrOncePanic, api.ErrBoxRing, api.ErrBoxNeed, api.ErrScopeShut, api.ErrHouseKey, api.ErrHouseScope} {
		if codes[e] < 200 {
			t.Errorf("the jobs are too tame: %v", codes)
		}
	}
}

// threads that get into each other's way, as often as they can
func TestSmall(t *testing.T) {
	var l []api.Job
	for _, x := range trial.SmallPlays() {
		job := api.Job{Recipes: x.Recipes, Scripts: x.Scripts}
		l = append(l, job, met(job), met(job), met(job))
	}
	for i := range 120 {
		for k, told := range runs(t, l, manyWorkers()[i%len(manyWorkers())]) {
			if k%4 > 0 {
				behind(t, told)
			}
		}
	}
}

// rings of one, two and three, met from several sides: who is told of the ring, and who of a need, is left open; but in each job one at least is told of the ring
func TestRings(t *testing.T) {
	var l []api.Job
	for many := 1; many <= 3; many++ {
		job := api.Job{Recipes: make([]api.Recipe, many)}
		for key := range many {
			job.Recipes[key] = gives(0, 1, (key+1)%many)
			job.Scripts = append(job.Scripts, script(ask(0, key)), script(open(0), ask(0, (key+1)%many), ask(1, key)))
		}
		l = append(l, times(21, met(job))...)
	}
	for i := range 60 {
		for k, told := range runs(t, l, manyWorkers()[i%len(manyWorkers())]) {
			many, rings := 1+k/21, 0
			for thread, a := range behind(t, told) {
				for n, x := range a {
					c := l[k].Scripts[thread][n+1]
					if need := (c.B + 1) % many; c.Op == 1 && x != answer(api.ErrBoxRing, need) && x != answer(api.ErrBoxNeed, need) && x != noScope {
						t.Fatal(many, c, x)
					}
					rings += trial.Number(x.Code == api.ErrBoxRing)
				}
			}
			if rings == 0 {
				t.Fatal(many, "nobody is told of the ring:", told)
			}
		}
	}
}

// what a job answers is what some order of its own threads' steps comes to, whatever goes on beside it
func TestSomeOrder(t *testing.T) {
	ends := recipes(ending(gives(0, 1), 1), ending(gives(0, 2, 0), 2), gives(0, 3, 1))
	all := jobs(
		api.Job{Recipes: recipes(gives(1, 1)), Scripts: scripts(script(shut(0)), script(shut(0)))},
		api.Job{Recipes: ends, Scripts: scripts(script(ask(0, 2), shut(0)), script(shut(0), ask(0, 2)))},
		api.Job{Recipes: recipes(gives(0, 1), gives(1, 2, 0)), Scripts: scripts(script(open(0), ask(1, 1)), script(shut(0)))},
		api.Job{Recipes: recipes(gives(1, 3)), Scripts: scripts(script(open(0)), script(ask(1, 0), open(1), shut(1)))},
		api.Job{Recipes: recipes(gives(0, 1, 1), gives(0, 1, 0)), Scripts: scripts(script(ask(0, 0)), script(ask(0, 1)))},
		api.Job{Recipes: recipes(acting(gives(0, 3), 2), gives(0, 1, 0)), Scripts: scripts(script(ask(0, 1)), script(ask(0, 0)))},
	)
	var l []api.Job
	var could [][][][]api.Answer
	for _, job := range all {
		could = append(could, trial.Tree(job.Recipes, job.Scripts).Outcomes())
	}
	for range 10 {
		for _, job := range all {
			l = append(l, met(job))
		}
	}
	for i := range 90 {
		for k, told := range runs(t, l, manyWorkers()[i%len(manyWorkers())]) {
			got := behind(t, told)
			if !slices.ContainsFunc(could[k%len(all)], func(a [][]api.Answer) bool { return trial.Same(got, a) }) {
				t.Fatalf("%v: %v is none of %v", all[k%len(all)], got, could[k%len(all)])
			}
		}
	}
}

// several who call Run at one time, of the same jobs, others of jobs that are refused, are answered as each alone
func TestSeveralRuns(t *testing.T) {
	r := trial.Row(5)
	l, want := make([]api.Job, 30), make([][][]api.Answer, 30)
	for i := range l {
		l[i] = loneJob(&r)
		want[i] = alone(t, l[i])
	}
	var ended sync.WaitGroup
	for i := range 8 {
		ended.Go(func() {
			for range 20 {
				if told, e := crew.Run(l, manyWorkers()[i%len(manyWorkers())]); e != api.OK || !sameAll(told, want) {
					t.Errorf("%v, error %d", told, e)
				}
				if told, e := crew.Run(append(slices.Clone(l), api.Job{}, api.Job{Recipes: l[0].Recipes, Scripts: make([][]api.Call, 9)}), 1+i); e != api.ErrArg || len(told) != 0 {
					t.Errorf("%v, error %d", told, e)
				}
			}
		})
	}
	ended.Wait()
}
