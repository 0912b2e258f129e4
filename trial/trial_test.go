package trial_test

import (
	"math"
	"slices"
	"testing"

	"butler/api"
	"butler/trial"
)

// counts lets a call of Op 1 add to the cell A, of Op 2 wait there till something else than 0 stands there, and answer it; one of Op 3 answers who makes it.
func counts(thread int, c api.Call) trial.Next {
	switch c.Op {
	case 1:
		return trial.Add(c.A, 1, func(sum int) trial.Next { return trial.Over(api.OK, sum) })
	case 2:
		return trial.Load(c.A, func(v int) trial.Next {
			if v != 0 {
				return trial.Over(api.OK, v)
			}
			return trial.Await(c.A, func(changed bool) trial.Next {
				if !changed {
					return trial.Over(api.ErrStuck, 0)
				}
				return counts(thread, c)
			})
		})
	case 3:
		return trial.Over(api.OK, thread)
	}
	return trial.Over(api.ErrArg, 0)
}

func calls(op, a, many int) []api.Call { return slices.Repeat([]api.Call{{Op: op, A: a}}, many) }

// by hand: who is ready, who is picked, who wakes
func TestPlay(t *testing.T) {
	g := trial.Game{Cells: []int{0, 5}, Scripts: [][]api.Call{calls(2, 0, 1), calls(1, 1, 2), calls(9, 0, 1), calls(1, 0, 1)}, Call: counts}
	before := []api.Step{trial.Begin(0, 0), trial.Begin(1, 0), trial.Begin(2, 0), trial.End(2, 0, api.ErrArg), trial.Begin(3, 0)}
	for i, x := range []struct {
		schedule []int
		behind   []api.Step
	}{
		{nil, []api.Step{
			trial.Step(0, 0, api.StepLoad, 0, 0),
			trial.Step(1, 1, api.StepAdd, 5, 6), trial.End(1, 0, 0), trial.Begin(1, 1),
			trial.Step(3, 0, api.StepAdd, 0, 1), trial.End(3, 0, 0),
			trial.Step(0, 0, api.StepWake, 0, 0),
			trial.Step(1, 1, api.StepAdd, 6, 7), trial.End(1, 1, 0),
			trial.Step(0, 0, api.StepLoad, 1, 1), trial.End(0, 0, 0),
		}},
		{[]int{-1, -4, 5, 2}, []api.Step{
			trial.Step(3, 0, api.StepAdd, 0, 1), trial.End(3, 0, 0),
			trial.Step(0, 0, api.StepLoad, 1, 1), trial.End(0, 0, 0),
			trial.Step(1, 1, api.StepAdd, 5, 6), trial.End(1, 0, 0), trial.Begin(1, 1),
			trial.Step(1, 1, api.StepAdd, 6, 7), trial.End(1, 1, 0),
		}},
	} {
		told := g.Play(x.schedule)
		if !slices.Equal(told.Trace, slices.Concat(before, x.behind)) || told.Stuck {
			t.Errorf("%d: %v, stuck %v", i, told.Trace, told.Stuck)
		}
		if !trial.Same(told.Answers, [][]api.Answer{trial.Values(1), trial.Values(6, 7), {{Code: api.ErrArg}}, trial.Values(1)}) {
			t.Errorf("%d: %v", i, told.Answers)
		}
	}
	if !slices.Equal(g.Cells, []int{0, 5}) {
		t.Error(g.Cells)
	}
}

// a call knows by whom it is made
func TestWho(t *testing.T) {
	told := trial.Game{Cells: []int{0}, Scripts: [][]api.Call{calls(3, 0, 2), nil, append(calls(1, 0, 1), calls(3, 0, 1)...)}, Call: counts}.Play(nil)
	if !trial.Same(told.Answers, [][]api.Answer{trial.Values(0, 0), nil, trial.Values(1, 2)}) {
		t.Error(told)
	}
}

// what a game's calls keep is of one game
func TestStart(t *testing.T) {
	kept := 0
	g := trial.Game{Cells: []int{0}, Scripts: [][]api.Call{calls(1, 0, 2), calls(1, 0, 1)}, Start: func() { kept = 0 }, Call: func(int, api.Call) trial.Next {
		kept++
		mine := kept
		return trial.Load(0, func(int) trial.Next { return trial.Over(api.OK, mine) })
	}}
	many := 0
	for schedule := range g.Schedules {
		if told := g.Play(schedule); !trial.Same(told.Answers, [][]api.Answer{trial.Values(1, 3), trial.Values(2)}) {
			t.Error(schedule, told.Answers)
		}
		many++
	}
	if many != 3 {
		t.Error(many)
	}
}

// cells that are made while a game goes on: numbered as they come, awaited as all others, of one game alone
func TestMake(t *testing.T) {
	first := []int{0, 9}
	makes := func(thread int, c api.Call) trial.Next {
		return trial.Add(0, 1, func(int) trial.Next {
			return trial.Make(first, func(at int) trial.Next {
				return trial.Add(at+c.A, 1, func(sum int) trial.Next { return trial.Over(api.OK, 100*at+sum) })
			})
		})
	}
	g := trial.Game{Cells: []int{5}, Scripts: [][]api.Call{{{A: 0}}, {{A: 1}, {A: 1}}}, Call: makes}
	for range 2 {
		told := g.Play([]int{1, 0, 0, 0})
		want := []api.Step{
			trial.Step(1, 0, api.StepAdd, 5, 6), trial.Step(0, 0, api.StepAdd, 6, 7), trial.Step(0, 3, api.StepAdd, 0, 1),
			trial.Step(1, 2, api.StepAdd, 9, 10), trial.Step(1, 0, api.StepAdd, 7, 8), trial.Step(1, 6, api.StepAdd, 9, 10),
		}
		if !slices.Equal(trial.Bare(told.Trace), want) || !trial.Same(told.Answers, [][]api.Answer{trial.Values(301), trial.Values(110, 510)}) {
			t.Error(told)
		}
	}
	waits := func(thread int, c api.Call) trial.Next {
		return trial.Make([]int{0}, func(at int) trial.Next { return counts(thread, api.Call{Op: c.Op, A: at - c.A}) })
	}
	told := trial.Game{Scripts: [][]api.Call{calls(2, 0, 1), calls(1, 1, 1)}, Call: waits}.Play([]int{0})
	if !trial.Same(told.Answers, [][]api.Answer{trial.Values(1), trial.Values(1)}) || told.Count(trial.Wakes) != 1 || !slices.Equal(g.Cells, []int{5}) || !slices.Equal(first, []int{0, 9}) {
		t.Error(told)
	}
}

func TestStuck(t *testing.T) {
	told := trial.Game{Cells: []int{0}, Scripts: [][]api.Call{calls(2, 0, 3)}, Call: counts}.Play(nil)
	want := []api.Step{trial.Begin(0, 0), trial.Step(0, 0, api.StepLoad, 0, 0), trial.Step(-1, -1, api.StepStuck, 0, 0), trial.End(0, 0, api.ErrStuck)}
	stuck := api.Answer{Code: api.ErrStuck}
	if !slices.Equal(told.Trace, want) || !told.Stuck || !trial.Same(told.Answers, [][]api.Answer{{stuck, stuck, stuck}}) {
		t.Error(told)
	}
}

// so many orders are there of threads with so many steps that wait for nothing
func TestSchedules(t *testing.T) {
	for _, x := range []struct {
		steps []int
		want  int
	}{{[]int{0}, 1}, {[]int{4}, 1}, {[]int{1, 1}, 2}, {[]int{3, 2}, 10}, {[]int{4, 4}, 70}, {[]int{2, 2, 2}, 90}} {
		g := trial.Game{Cells: []int{0}, Call: counts}
		for _, many := range x.steps {
			g.Scripts = append(g.Scripts, calls(1, 0, many))
		}
		var traces [][]api.Step
		for schedule := range g.Schedules {
			traces = append(traces, g.Play(schedule).Trace)
		}
		slices.SortFunc(traces, func(a, b []api.Step) int {
			return slices.CompareFunc(a, b, func(x, y api.Step) int { return x.Thread - y.Thread })
		})
		many := len(traces)
		if apart := len(slices.CompactFunc(traces, slices.Equal[[]api.Step])); many != x.want || apart != x.want {
			t.Errorf("%v: %d schedules, %d orders", x.steps, many, apart)
		}
	}
}

func TestShares(t *testing.T) {
	l := trial.Values(1, 2, 3, 4)
	for i, x := range []struct {
		a    [][]api.Answer
		want bool
	}{
		{nil, false}, {[][]api.Answer{l}, false}, {[][]api.Answer{nil, l, {}}, false}, {[][]api.Answer{l, trial.Values(1, 2, 3, 4)}, false},
		{[][]api.Answer{l[:2:2], l[2:]}, false},
		{[][]api.Answer{l, l}, true}, {[][]api.Answer{l[:2], l[2:]}, true}, {[][]api.Answer{l[3:], {}, l[:1]}, true},
	} {
		if got := trial.Shares(x.a); got != x.want {
			t.Errorf("%d: %v", i, got)
		}
	}
}

func TestRow(t *testing.T) {
	r, again := trial.Row(7), trial.Row(7)
	var below0, above, long bool
	for range 300 {
		l := r.Schedule(9)
		if !slices.Equal(l, again.Schedule(9)) {
			t.Fatal("another row")
		}
		below0 = below0 || slices.Contains(l, math.MinInt)
		above = above || slices.Contains(l, math.MaxInt)
		long = long || len(l) == 8
	}
	if !below0 || !above || !long {
		t.Error(below0, above, long)
	}
}

func TestScripts(t *testing.T) {
	r, again := trial.Row(8), trial.Row(8)
	threads, long := map[int]int{}, map[int]int{}
	ops := map[int]int{}
	for range 500 {
		l := r.Scripts(3, 4, 1, 2, -5)
		if !slices.EqualFunc(l, again.Scripts(3, 4, 1, 2, -5), slices.Equal[[]api.Call]) {
			t.Fatal("another row")
		}
		threads[len(l)]++
		for _, calls := range l {
			long[len(calls)]++
			for _, c := range calls {
				ops[c.Op]++
			}
		}
	}
	if threads[0] > 0 || len(threads) != 3 || len(long) != 5 || long[4] == 0 || len(ops) != 3 || min(ops[1], ops[2], ops[-5]) == 0 {
		t.Error(threads, long, ops)
	}
}

func TestOpsAndCodes(t *testing.T) {
	if l := trial.Ops(3, -1); !slices.Equal(l, []api.Call{{Op: 3}, {Op: -1}}) || len(trial.Ops()) != 0 {
		t.Error(l)
	}
	if l := trial.Codes(api.ErrStuck, 0); !slices.Equal(l, []api.Answer{{Code: api.ErrStuck}, {}}) || len(trial.Codes()) != 0 {
		t.Error(l)
	}
}

// recipes of a row may be, and there are such of all kinds
func TestRecipes(t *testing.T) {
	r := trial.Row(11)
	many, rising, twice, itself, failing, levels := 0, 0, 0, 0, 0, 0
	for range 2000 {
		l := r.Recipes(9)
		if len(l) < 1 || len(l) > 9 {
			t.Fatalf("%d recipes", len(l))
		}
		many = max(many, len(l))
		for key, x := range l {
			if x.Level < 0 || x.Level >= api.MaxLevels || x.Act < 0 || x.Act > 2 || x.End < 0 || x.End > 2 || x.Value < -1000 || x.Value > 1000 || len(x.Needs) > api.MaxNeeds {
				t.Fatalf("key %d of %v", key, l)
			}
			failing += min(x.Act, 1)
			levels = max(levels, x.Level)
			for i, need := range x.Needs {
				if need < 0 || need >= len(l) || l[need].Level > x.Level {
					t.Fatalf("key %d of %v", key, l)
				}
				rising += trial.Number(need > key)
				itself += trial.Number(need == key)
				twice += trial.Number(slices.Contains(x.Needs[:i], need))
			}
		}
	}
	if many < 9 || rising < 100 || twice < 100 || itself < 100 || failing < 100 || levels < api.MaxLevels-1 {
		t.Errorf("too tame: up to %d keys, %d needs that are above, %d twice, %d of a key by itself, %d that fail, Levels up to %d", many, rising, twice, itself, failing, levels)
	}
}
