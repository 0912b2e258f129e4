package cell_test

import (
	"math"
	"slices"
	"sync"
	"testing"

	"butler/api"
	"butler/cell"
	"butler/trial"
	"butler/turn"
)

// script makes calls of numbers, Op, A, B, C in turns.
func script(l ...int) []api.Call {
	var out []api.Call
	for i := 0; i < len(l); i += 4 {
		out = append(out, api.Call{Op: l[i], A: l[i+1], B: l[i+2], C: l[i+3]})
	}
	return out
}

// short names for what nearly every row is made of
func step(thread, cell, op, before, after int) api.Step {
	return trial.Step(thread, cell, op, before, after)
}
func begin(thread, i int) api.Step               { return trial.Begin(thread, i) }
func end(thread, i int, code api.Errno) api.Step { return trial.End(thread, i, code) }
func values(l ...int) []api.Answer               { return trial.Values(l...) }

// game is what is played.
type game struct {
	schedule, values []int
	scripts          [][]api.Call
}

// player is Play of cells with these values.
func player(values []int) trial.Player {
	return func(w *turn.World, scripts [][]api.Call) ([][]api.Answer, api.Errno) {
		return cell.Play(w, values, scripts)
	}
}

// plays carries a game out where it may not fail.
func (g game) plays(t *testing.T) (*turn.World, [][]api.Answer) {
	t.Helper()
	w := turn.New(g.schedule)
	a, e := cell.Play(w, g.values, g.scripts)
	if e != api.OK {
		t.Fatalf("%v: error %d", g, e)
	}
	return w, a
}

// holds holds a game against the model.
func (g game) holds(t *testing.T) (*turn.World, [][]api.Answer) {
	t.Helper()
	w, a := g.plays(t)
	got, want := trial.Told{Trace: w.Trace(), Answers: a, Stuck: w.Stuck()}, g.model().Play(g.schedule)
	if !got.Same(want) {
		t.Fatalf("%v:\n%v\nis to be\n%v", g, got, want)
	}
	return w, a
}

// source makes games.
type source struct{ trial.Row }

func (s *source) number() int {
	return s.One(0, 0, 0, 1, 1, 2, 3, -1, -2, 7, math.MaxInt, math.MinInt)
}

// game is one with these Ops, in which many calls meet.
func (s *source) game(ops ...int) game {
	var g game
	for range 1 + s.Below(3) {
		g.values = append(g.values, s.number())
	}
	g.schedule = s.Schedule(30)
	for range 1 + s.Below(s.One(2, 3, 4, api.MaxThreads)) {
		var calls []api.Call
		for range s.Below(6) {
			calls = append(calls, api.Call{Op: s.One(ops...), A: s.One(0, 0, 1, 2, 5, -1, -2, -7, math.MaxInt, math.MinInt), B: s.number(), C: s.number()})
		}
		g.scripts = append(g.scripts, calls)
	}
	return g
}

// P2.1

func TestNumbers(t *testing.T) {
	w := turn.New(nil)
	for i := range 5 {
		if i == 3 {
			w.Cell() // a number that is no cell's of this package
			continue
		}
		if c := cell.New(w, 10*i); c.Id() != i {
			t.Errorf("the cell %d has the number %d", i, c.Id())
		}
	}
	for range 3 {
		if c := cell.New(nil, 7); c.Id() != 0 {
			t.Errorf("a cell of no world has the number %d", c.Id())
		}
	}
}

func TestNew(t *testing.T) {
	x := turn.Free(0)
	for _, v := range []int{0, 1, -1, 5, 1 << 40, math.MaxInt, math.MinInt} {
		if got := cell.New(nil, v).Load(x); got != v {
			t.Errorf("New of %d: %d stands there", v, got)
		}
	}
	w := turn.New(nil)
	a, b := cell.New(w, 3), cell.New(w, 4)
	w.Run([]func(*turn.Thread){func(x *turn.Thread) { b.Load(x); a.Load(x) }})
	if want := []api.Step{step(0, 1, api.StepLoad, 4, 4), step(0, 0, api.StepLoad, 3, 3)}; !slices.Equal(w.Trace(), want) {
		t.Error(w.Trace())
	}
}

// P2.2

// each of the steps, of a cell in which that stood: what it leaves there, and answers (of Store: 0, as Play does).
var steps = []struct {
	name            string
	op, stood, b, c int
	stands, answer  int
	do              func(x *turn.Thread, a *cell.Cell, b, c int) int
}{
	{"Load", 1, 5, 8, 9, 5, 5, load},
	{"Load", 1, math.MinInt, 8, 9, math.MinInt, math.MinInt, load},
	{"Store", 2, 5, 8, 9, 8, 0, store},
	{"Store", 2, 8, 8, 9, 8, 0, store},
	{"Store", 2, 0, math.MaxInt, 9, math.MaxInt, 0, store},
	{"Swap", 3, 5, 8, 9, 8, 5, swap},
	{"Swap", 3, 5, 5, 9, 5, 5, swap},
	{"Swap", 3, -1, math.MinInt, 9, math.MinInt, -1, swap},
	{"Cas", 4, 5, 5, 9, 9, 1, cas},
	{"Cas", 4, 5, 5, 5, 5, 1, cas},
	{"Cas", 4, 5, 8, 9, 5, 0, cas},
	{"Cas", 4, 9, 8, 9, 9, 0, cas},
	{"Cas", 4, 0, math.MinInt, 9, 0, 0, cas},
	{"Cas", 4, math.MinInt, math.MinInt, math.MaxInt, math.MaxInt, 1, cas},
	{"Add", 5, 5, 8, 9, 13, 13, add},
	{"Add", 5, 5, 0, 9, 5, 5, add},
	{"Add", 5, 5, -8, 9, -3, -3, add},
	{"Add", 5, math.MaxInt, 1, 9, math.MinInt, math.MinInt, add},
	{"Add", 5, math.MinInt, -1, 9, math.MaxInt, math.MaxInt, add},
	{"Add", 5, math.MaxInt, math.MaxInt, 9, -2, -2, add},
	{"Add", 5, math.MinInt, math.MinInt, 9, 0, 0, add},
}

func load(x *turn.Thread, a *cell.Cell, b, c int) int  { return a.Load(x) }
func store(x *turn.Thread, a *cell.Cell, b, c int) int { a.Store(x, b); return 0 }
func swap(x *turn.Thread, a *cell.Cell, b, c int) int  { return a.Swap(x, b) }
func add(x *turn.Thread, a *cell.Cell, b, c int) int   { return a.Add(x, b) }
func cas(x *turn.Thread, a *cell.Cell, b, c int) int {
	if a.Cas(x, b, c) {
		return 1
	}
	return 0
}

// a free thread alone is answered as one by turns.
func TestStepsFreely(t *testing.T) {
	x := turn.Free(3)
	for i, s := range steps {
		a := cell.New(nil, s.stood)
		if got := s.do(x, a, s.b, s.c); got != s.answer {
			t.Errorf("%d %s: the answer is %d", i, s.name, got)
		}
		if got := a.Load(x); got != s.stands {
			t.Errorf("%d %s: %d stands there", i, s.name, got)
		}
	}
}

func TestStepsByTurns(t *testing.T) {
	for i, s := range steps {
		w := turn.New(nil)
		other := cell.New(w, 1)
		a := cell.New(w, s.stood)
		got := 0
		w.Run([]func(*turn.Thread){func(x *turn.Thread) { got = s.do(x, a, s.b, s.c) }})
		if want := []api.Step{step(0, 1, s.op, s.stood, s.stands)}; !slices.Equal(w.Trace(), want) {
			t.Errorf("%d %s: the trace is %v", i, s.name, w.Trace())
		}
		if got != s.answer {
			t.Errorf("%d %s: the answer is %d", i, s.name, got)
		}
		if other.Id() != 0 || a.Id() != 1 {
			t.Error(other.Id(), a.Id())
		}
	}
}

func TestStepsOfPlay(t *testing.T) {
	for i, s := range steps {
		w, a := game{values: []int{s.stood}, scripts: [][]api.Call{script(s.op, 0, s.b, s.c)}}.holds(t)
		want := []api.Step{begin(0, 0), step(0, 0, s.op, s.stood, s.stands), end(0, 0, api.OK)}
		if !slices.Equal(w.Trace(), want) || !trial.Same(a, [][]api.Answer{values(s.answer)}) {
			t.Errorf("%d %s: %v %v", i, s.name, w.Trace(), a)
		}
	}
}

// nobody sees a step of another thread ahead of its turn.
func TestStepsAtTheirTurns(t *testing.T) {
	for _, writes := range [][]api.Call{script(2, 0, 7, 0), script(3, 0, 7, 0), script(4, 0, 5, 7), script(5, 0, 2, 0)} {
		loads := script(1, 0, 0, 0, 1, 0, 0, 0, 1, 0, 0, 0)
		for at := range 4 {
			schedule := []int{0, 0, 0}[:min(at, 3)]
			schedule = append(slices.Clone(schedule), 1)
			_, a := game{schedule, []int{5}, [][]api.Call{loads, writes}}.holds(t)
			want := values(7, 7, 7)
			for i := range at {
				want[i].Value = 5
			}
			if !slices.Equal(a[0], want) {
				t.Errorf("%v behind %d loads: %v", writes, at, a[0])
			}
		}
	}
}

// P2.3

func TestUntilFreely(t *testing.T) {
	x := turn.Free(0)
	if c := cell.New(nil, 3); !c.Until(x, 4) || !c.Until(x, 0) || c.Load(x) != 3 {
		t.Error("Until where something else stands")
	}
	for range 50 {
		c, seen := cell.New(nil, 0), cell.New(nil, 0)
		var all sync.WaitGroup
		all.Add(1)
		go func() {
			defer all.Done()
			y := turn.Free(1)
			if !c.Until(y, 0) {
				t.Error("a free Until is false")
			}
			seen.Store(y, c.Load(y))
		}()
		c.Store(x, 0) // which changes nothing
		c.Store(x, 6)
		all.Wait()
		if got := seen.Load(x); got != 6 {
			t.Errorf("behind Until: %d", got)
		}
	}
}

func TestUntilWaits(t *testing.T) {
	until := script(6, 0, 0, 0)
	for i, x := range []struct {
		g    game
		want []api.Step // but for the notes
	}{
		// it waits for nothing
		{game{nil, []int{4}, [][]api.Call{until}}, []api.Step{step(0, 0, 1, 4, 4)}},
		// it is woken once, and looks again
		{game{nil, []int{0}, [][]api.Call{until, script(2, 0, 3, 0)}},
			[]api.Step{step(0, 0, 1, 0, 0), step(1, 0, 2, 0, 3), step(0, 0, 6, 0, 0), step(0, 0, 1, 3, 3)}},
		// what leaves the cell as it was wakes nobody, nor does another cell
		{game{nil, []int{0, 0}, [][]api.Call{until, script(2, 0, 0, 0, 4, 0, 1, 2, 3, 0, 0, 0, 5, 0, 0, 0, 1, 0, 0, 0, 2, 1, 8, 0, 5, 0, -1, 0)}},
			[]api.Step{step(0, 0, 1, 0, 0), step(1, 0, 2, 0, 0), step(1, 0, 4, 0, 0), step(1, 0, 3, 0, 0), step(1, 0, 5, 0, 0), step(1, 0, 1, 0, 0), step(1, 1, 2, 0, 8), step(1, 0, 5, 0, -1), step(0, 0, 6, 0, 0), step(0, 0, 1, -1, -1)}},
		// what is changed behind its last look is nothing to it
		{game{[]int{0, 0, 0, 0, 1, 0, 0}, []int{0}, [][]api.Call{until, script(2, 0, 3, 0, 2, 0, 0, 0, 2, 0, 4, 0)}},
			[]api.Step{step(0, 0, 1, 0, 0), step(1, 0, 2, 0, 3), step(0, 0, 6, 0, 0), step(0, 0, 1, 3, 3), step(1, 0, 2, 3, 0), step(1, 0, 2, 0, 4)}},
		// it is woken, finds what it found, and awaits anew
		{game{[]int{0, 0, 1, 0, 0, 0, 0}, []int{0}, [][]api.Call{until, script(2, 0, 3, 0, 2, 0, 0, 0, 2, 0, 4, 0)}},
			[]api.Step{step(0, 0, 1, 0, 0), step(1, 0, 2, 0, 3), step(1, 0, 2, 3, 0), step(0, 0, 6, 0, 0), step(0, 0, 1, 0, 0), step(1, 0, 2, 0, 4), step(0, 0, 6, 0, 0), step(0, 0, 1, 4, 4)}},
		// it is stuck
		{game{nil, []int{0}, [][]api.Call{until}}, []api.Step{step(0, 0, 1, 0, 0), step(-1, -1, 7, 0, 0)}},
	} {
		w, _ := x.g.holds(t)
		got := trial.Bare(w.Trace())
		if !slices.Equal(got, x.want) {
			t.Errorf("%d: %v", i, got)
		}
	}
}

// in a world that is stuck an Until still looks, and goes on if it may.
func TestUntilBehindStuck(t *testing.T) {
	for i, x := range []struct {
		second int
		want   bool
		steps  []api.Step
	}{
		{0, false, []api.Step{step(0, 0, 1, 0, 0), step(-1, -1, 7, 0, 0), step(0, 0, 1, 0, 0)}},
		{1, true, []api.Step{step(0, 0, 1, 0, 0), step(-1, -1, 7, 0, 0), step(0, 0, 1, 0, 0)}},
	} {
		w := turn.New(nil)
		c := cell.New(w, 0)
		first, second := true, false
		w.Run([]func(*turn.Thread){func(t *turn.Thread) { first = c.Until(t, 0); second = c.Until(t, x.second) }})
		if first || second != x.want || !slices.Equal(w.Trace(), x.steps) {
			t.Error(i, first, second, w.Trace())
		}
	}
}

// P2.4

// the chapter's examples
func TestExamples(t *testing.T) {
	for i, x := range []struct {
		g     game
		trace []api.Step
		want  [][]api.Answer
	}{
		{game{nil, []int{5}, [][]api.Call{script(1, 0, 0, 0, 5, 0, 2, 0, 4, 0, 7, 9, 4, 0, 1, 2)}},
			[]api.Step{
				begin(0, 0), step(0, 0, api.StepLoad, 5, 5), end(0, 0, 0), begin(0, 1), step(0, 0, api.StepAdd, 5, 7), end(0, 1, 0),
				begin(0, 2), step(0, 0, api.StepCas, 7, 9), end(0, 2, 0), begin(0, 3), step(0, 0, api.StepCas, 9, 9), end(0, 3, 0)},
			[][]api.Answer{values(5, 7, 1, 0)}},
		{game{[]int{1}, []int{0}, [][]api.Call{script(5, 0, 1, 0), script(5, 0, 1, 0)}},
			[]api.Step{begin(0, 0), begin(1, 0), step(1, 0, api.StepAdd, 0, 1), end(1, 0, 0), step(0, 0, api.StepAdd, 1, 2), end(0, 0, 0)},
			[][]api.Answer{values(2), values(1)}},
		{game{nil, []int{0}, [][]api.Call{script(6, 0, 0, 0), script(2, 0, 3, 0)}},
			[]api.Step{
				begin(0, 0), begin(1, 0), step(0, 0, api.StepLoad, 0, 0), step(1, 0, api.StepStore, 0, 3), end(1, 0, 0),
				step(0, 0, api.StepWake, 0, 0), step(0, 0, api.StepLoad, 3, 3), end(0, 0, 0)},
			[][]api.Answer{values(0), values(0)}},
		{game{nil, []int{0}, [][]api.Call{script(6, 0, 0, 0), script(6, 0, 0, 0, 1, 0, 0, 0)}},
			[]api.Step{
				begin(0, 0), begin(1, 0), step(0, 0, api.StepLoad, 0, 0), step(1, 0, api.StepLoad, 0, 0), step(-1, -1, api.StepStuck, 0, 0),
				end(0, 0, api.ErrStuck), end(1, 0, api.ErrStuck)},
			[][]api.Answer{{{Code: api.ErrStuck}}, {{Code: api.ErrStuck}, {Code: api.ErrStuck}}}},
		{game{nil, []int{0}, [][]api.Call{script(9, 0, 0, 0)}},
			[]api.Step{begin(0, 0), end(0, 0, api.ErrArg)},
			[][]api.Answer{{{Code: api.ErrArg}}}},
	} {
		w, a := x.g.holds(t)
		if !slices.Equal(w.Trace(), x.trace) || !trial.Same(a, x.want) {
			t.Errorf("%d: %v %v", i, w.Trace(), a)
		}
	}
}

// many games, under many schedules, against the model
func TestPlay(t *testing.T) {
	s := source{1}
	stuck, woken := 0, 0
	for range 6000 {
		g := s.game(1, 2, 3, 4, 5, 5, 6, 6, 6, s.One(0, 1, 7, -1))
		w, _ := g.holds(t)
		if w.Stuck() {
			stuck++
		}
		if slices.ContainsFunc(w.Trace(), func(s api.Step) bool { return s.Op == api.StepWake }) {
			woken++
		}
	}
	if stuck < 100 || woken < 100 {
		t.Errorf("the games are too tame: %d stuck, %d woken", stuck, woken)
	}
}

// all schedules of two threads that add, and look, and wait
func TestAllSchedules(t *testing.T) {
	for _, scripts := range [][][]api.Call{
		{script(5, 0, 1, 0, 5, 0, 1, 0), script(4, 0, 1, 5, 3, 0, 9, 0)},
		{script(6, 0, 0, 0, 2, 0, 0, 0), script(5, 0, 1, 0, 6, 0, 1, 0)},
		{script(6, 0, 0, 0, 2, 1, 4, 0), script(2, 0, 2, 0, 6, 1, 0, 0), script(1, 0, 0, 0, 5, 1, -4, 0)},
	} {
		for schedule := range (game{nil, []int{0, 0}, scripts}).model().Schedules {
			game{schedule, []int{0, 0}, scripts}.holds(t)
		}
	}
}

// A names a cell from whichever side
func TestWhichCell(t *testing.T) {
	g := game{values: []int{10, 11, 12}}
	as := []int{0, 1, 2, 3, 4, 5, 6, 300, -1, -2, -3, -4, -300, math.MaxInt, math.MinInt}
	at := []int{0, 1, 2, 0, 1, 2, 0, 0, 2, 1, 0, 2, 0, 1, 1} // 2^63 is 2 and a number of threes
	var calls []api.Call
	for _, a := range as {
		calls = append(calls, api.Call{Op: 1, A: a})
	}
	g.scripts = [][]api.Call{calls}
	w, a := g.holds(t)
	for i, x := range a[0] {
		if x.Value != 10+at[i] || w.Trace()[3*i+1].Cell != at[i] {
			t.Errorf("A %d is the cell %d, with %d", as[i], w.Trace()[3*i+1].Cell, x.Value)
		}
	}
}

// what an Op does not name is not looked at
func TestNotLookedAt(t *testing.T) {
	for _, n := range []int{0, 1, -1, math.MaxInt, math.MinInt} {
		_, a := game{values: []int{5}, scripts: [][]api.Call{script(1, n, n, n, 2, n, 6, n, 3, n, 7, n, 5, n, 1, n, 6, n, 0, n, -1, n, n, n, 7, n, n, n, 0, n, n, n)}}.holds(t)
		want := append(values(5, 0, 6, 8, 0), api.Answer{Code: api.ErrArg}, api.Answer{Code: api.ErrArg}, api.Answer{Code: api.ErrArg})
		if !slices.Equal(a[0], want) {
			t.Error(n, a)
		}
	}
}

// an Op that there is not is told, and the script goes on
func TestNoSuchOp(t *testing.T) {
	for _, op := range trial.Strange(6) {
		w, a := game{values: []int{5}, scripts: [][]api.Call{script(op, 0, 1, 1, 1, 0, 0, 0), script(op, 0, 1, 1)}}.holds(t)
		want := []api.Step{begin(0, 0), end(0, 0, api.ErrArg), begin(0, 1), begin(1, 0), end(1, 0, api.ErrArg), step(0, 0, api.StepLoad, 5, 5), end(0, 1, 0)}
		if !slices.Equal(w.Trace(), want) || !trial.Same(a, [][]api.Answer{{{Code: api.ErrArg}, {Value: 5}}, {{Code: api.ErrArg}}}) {
			t.Error(op, w.Trace(), a)
		}
	}
}

// behind ErrStuck there is neither note nor step, not even of an Op that there is not
func TestBehindStuck(t *testing.T) {
	w, a := game{values: []int{0}, scripts: [][]api.Call{script(6, 0, 0, 0, 2, 0, 1, 0, 9, 0, 0, 0, 6, 0, 7, 0)}}.holds(t)
	want := []api.Step{begin(0, 0), step(0, 0, api.StepLoad, 0, 0), step(-1, -1, api.StepStuck, 0, 0), end(0, 0, api.ErrStuck)}
	stuck := api.Answer{Code: api.ErrStuck}
	if !slices.Equal(w.Trace(), want) || !trial.Same(a, [][]api.Answer{{stuck, stuck, stuck, stuck}}) {
		t.Error(w.Trace(), a)
	}
}

// at the limits
func TestGreatest(t *testing.T) {
	calls := slices.Repeat(script(5, 0, 1, 0), api.MaxCalls)
	g := game{values: []int{0}}
	for range api.MaxThreads {
		g.scripts = append(g.scripts, calls)
	}
	w, a := g.holds(t)
	if len(w.Trace()) != 3*api.MaxCalls*api.MaxThreads || a[7][63].Value != api.MaxCalls*api.MaxThreads {
		t.Error(len(w.Trace()), a[7][63])
	}
	g.values = slices.Repeat([]int{-1}, 1000)
	for i := range g.scripts {
		g.scripts[i] = script(5, 999-i, i, 0)
	}
	g.holds(t)
}

func TestNoCalls(t *testing.T) {
	w, a := game{values: []int{0}, scripts: [][]api.Call{nil}}.holds(t)
	if len(w.Trace()) != 0 || len(a) != 1 || len(a[0]) != 0 || !w.Ran() {
		t.Error(w.Trace(), a)
	}
	_, a = game{values: []int{0}, scripts: [][]api.Call{{}, script(5, 0, 4, 0), nil}}.holds(t)
	if !trial.Same(a, [][]api.Answer{{}, values(4), {}}) {
		t.Error(a)
	}
}

// cells of a world that has others go on behind these
func TestCellsBehindOthers(t *testing.T) {
	w := turn.New(nil)
	cell.New(w, 77)
	a, e := cell.Play(w, []int{5, 6}, [][]api.Call{script(1, 1, 0, 0, 1, 0, 0, 0)})
	want := []api.Step{begin(0, 0), step(0, 2, api.StepLoad, 6, 6), end(0, 0, 0), begin(0, 1), step(0, 1, api.StepLoad, 5, 5), end(0, 1, 0)}
	if e != api.OK || !trial.Same(a, [][]api.Answer{values(6, 5)}) || !slices.Equal(w.Trace(), want) {
		t.Error(a, e, w.Trace())
	}
}

func TestRefused(t *testing.T) {
	for _, values := range [][]int{{1}, {4, 5, 6}} {
		if err := player(values).Refuses(script(1, 0, 0, 0)); err != nil {
			t.Error(values, err)
		}
	}
	for _, values := range [][]int{nil, {}} {
		if err := player(values).RefusesAll(script(1, 0, 0, 0)); err != nil {
			t.Error(values, err)
		}
	}
}

// P2.5

func TestMemory(t *testing.T) {
	list := []int{3, 4}
	values := trial.Roomy(-7, list...)
	if err := player(values).Keeps(script(3, 0, 8, 0, 5, 1, 1, 0)); err != nil {
		t.Error(err)
	}
	if !slices.Equal(values[:4], append(slices.Clone(list), -7, -7)) {
		t.Error(values[:4])
	}
}

// P2.6

func TestRow(t *testing.T) {
	s := source{2}
	for range 1500 {
		g := s.game(1, 2, 3, 4, 4, 5, 6)
		w, _ := g.plays(t)
		stands := slices.Clone(g.values)
		for i, x := range w.Trace() {
			if x.Op > api.StepAdd {
				continue
			}
			if x.Old != stands[x.Cell] {
				t.Fatalf("%v: the step %d is %v where %d stands", g, i, x, stands[x.Cell])
			}
			if x.Op == api.StepLoad && x.New != x.Old {
				t.Fatalf("%v: the Load %d changes the cell: %v", g, i, x)
			}
			stands[x.Cell] = x.New
		}
	}
}

func TestFailedCasChangesNothing(t *testing.T) {
	s := source{3}
	failed := 0
	for range 1500 {
		g := s.game(1, 4, 4, 4, 5)
		w, a := g.plays(t)
		ends := make([]int, len(g.scripts)) // of each thread: which call is under way
		for i, x := range w.Trace() {
			if x.Op == api.StepEnd {
				ends[x.Thread]++
			}
			if x.Op != api.StepCas {
				continue
			}
			at := ends[x.Thread]
			call := g.scripts[x.Thread][at]
			done := a[x.Thread][at].Value == 1
			if done != (x.Old == call.B) || done && x.New != call.C || !done && x.New != x.Old {
				t.Fatalf("%v: the Cas %d, %v, is answered by %v", g, i, x, a[x.Thread][at])
			}
			if !done {
				failed++
			}
		}
	}
	if failed < 100 {
		t.Errorf("only %d failed", failed)
	}
}

// P2.7

func TestNothingIsLost(t *testing.T) {
	s := source{4}
	for range 1500 {
		g := s.game(5)
		sum := slices.Clone(g.values)
		stands := slices.Clone(g.values)
		for _, calls := range g.scripts {
			for _, c := range calls {
				at := c.A % len(sum)
				if at < 0 {
					at += len(sum)
				}
				sum[at] += c.B
			}
		}
		w, _ := g.plays(t)
		for _, x := range w.Trace() {
			if x.Op == api.StepAdd {
				stands[x.Cell] = x.New
			}
		}
		if !slices.Equal(sum, stands) {
			t.Fatalf("%v: %v stand there, %v were added", g, stands, sum)
		}
	}
}

// together lets free threads go at one time, as nearly as may be.
func together(many int, body func(x *turn.Thread)) {
	var all sync.WaitGroup
	start := make(chan struct{})
	for i := range many {
		all.Add(1)
		go func() {
			defer all.Done()
			<-start
			body(turn.Free(i))
		}()
	}
	close(start)
	all.Wait()
}

func TestNothingIsLostFreely(t *testing.T) {
	const many, each = 8, 200000
	a, b := cell.New(nil, 5), cell.New(nil, 0)
	together(many, func(x *turn.Thread) {
		for n := range each {
			a.Add(x, n)
		}
		for range each {
			for old := b.Load(x); !b.Cas(x, old, old+1); old = b.Load(x) {
			}
		}
	})
	x := turn.Free(0)
	if got := a.Load(x); got != 5+many*(each-1)*each/2 {
		t.Error("by Add", got)
	}
	if got := b.Load(x); got != many*each {
		t.Error("by Cas", got)
	}
}

// of all that is swapped in, each comes out once
func TestSwapsFreely(t *testing.T) {
	const many, each = 8, 20000
	c := cell.New(nil, 0)
	out := make([][]int, many)
	together(many, func(x *turn.Thread) {
		i := x.Id()
		for n := range each {
			out[i] = append(out[i], c.Swap(x, 1+i*each+n))
		}
	})
	got := append(slices.Concat(out...), c.Load(turn.Free(0)))
	slices.Sort(got)
	for i, v := range got {
		if v != i {
			t.Fatalf("at %d comes %d", i, v)
		}
	}
}
