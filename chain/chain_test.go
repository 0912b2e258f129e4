package chain_test

import (
	"math"
	"slices"
	"testing"

	"butler/api"
	"butler/cell"
	"butler/chain"
	"butler/play"
	"butler/trial"
	"butler/turn"
)

// short names for what nearly every row is made of
func ask(from, to int) api.Call           { return api.Call{Op: 1, A: from, B: to} }
func load(thread, at, v int) api.Step     { return trial.Step(thread, at, api.StepLoad, v, v) }
func store(thread, at, v, x int) api.Step { return trial.Step(thread, at, api.StepStore, v, x) }

var (
	no  = api.Answer{}
	yes = api.Answer{Value: 1}
	arg = api.Answer{Code: api.ErrArg}
)

func steps(l ...api.Step) []api.Step { return l }

// asks are calls, one behind the other, of these pairs.
func asks(pairs ...int) []api.Call {
	var out []api.Call
	for i := 0; i < len(pairs); i += 2 {
		out = append(out, ask(pairs[i], pairs[i+1]))
	}
	return out
}

// times is a list, so many times one behind the other.
func times[T any](many int, l ...T) []T { return slices.Repeat(l, many) }

// does is one of a chain's own calls.
func does(c *chain.Chain) func(t *turn.Thread, x api.Call) api.Answer {
	return func(t *turn.Thread, x api.Call) api.Answer {
		return api.Answer{Value: trial.Number(c.Ask(t, x.A, x.B))}
	}
}

// player is Play with n keys.
func player(n int) trial.Player {
	return func(w *turn.World, scripts [][]api.Call) ([][]api.Answer, api.Errno) {
		return chain.Play(w, n, scripts)
	}
}

// plays carries a Play out that may not fail, and holds it against the model.
func plays(t *testing.T, schedule []int, n int, scripts [][]api.Call) trial.Told {
	t.Helper()
	got, e := player(n).Tell(schedule, scripts)
	if want := model(n, scripts).Play(schedule); e != api.OK || !got.Same(want) {
		t.Fatalf("%v, %d of %v: error %d,\n%v\nis to be\n%v", schedule, n, scripts, e, got, want)
	}
	return got
}

// made carries scripts out by the calls of a chain that New made, and holds them against the model.
func made(t *testing.T, schedule []int, n int, scripts [][]api.Call) trial.Told {
	t.Helper()
	got, _ := trial.Player(func(w *turn.World, scripts [][]api.Call) ([][]api.Answer, api.Errno) {
		return play.Run(w, scripts, does(chain.New(w, n))), api.OK
	}).Tell(schedule, scripts)
	if want := game(n, scripts).Play(schedule); !got.Same(want) {
		t.Fatalf("%v, %d of %v:\n%v\nis to be\n%v", schedule, n, scripts, got, want)
	}
	return got
}

// P12.1

// New makes a cell for each key, in their order, 0 at first
func TestNew(t *testing.T) {
	for _, x := range []struct{ n, many int }{
		{0, 0}, {1, 1}, {2, 2}, {3, 3}, {7, 7}, {99, 99}, {api.MaxKeys, 100},
		{-1, 0}, {-api.MaxKeys, 0}, {math.MinInt, 0}, {101, 100}, {1 << 32, 100}, {1<<32 + 1, 100}, {math.MaxInt, 100},
	} {
		for _, ahead := range []int{0, 1, 4} {
			w := turn.New(nil)
			for range ahead {
				cell.New(w, 9)
			}
			c := chain.New(w, x.n)
			if behind := w.Cell(); behind != ahead+x.many {
				t.Errorf("%d keys behind %d cells take %d", x.n, ahead, behind-ahead)
			}
			script, want := asks(x.many, 0, 0, x.many, x.many, x.many), steps()
			for k := range x.many {
				script = append(script, ask(k, k))
				want = append(want, store(0, ahead+k, 0, k+1))
			}
			got := trial.Calls(w, [][]api.Call{script}, does(c))
			if !slices.Equal(w.Trace(), want) || !slices.Equal(got[0], append(times(3, no), times(x.many, yes)...)) {
				t.Errorf("%d keys behind %d cells: %v, %v", x.n, ahead, got, w.Trace())
			}
		}
	}
}

// the chains of a world know nothing of each other
func TestTwo(t *testing.T) {
	w := turn.New(nil)
	a, b := chain.New(w, 2), chain.New(w, 3)
	var got []bool
	w.Run([]func(*turn.Thread){func(x *turn.Thread) {
		got = append(got, a.Ask(x, 0, 1), b.Ask(x, 1, 0), b.Ask(x, 2, 0), a.Ask(x, 1, 0), a.Ask(x, 2, 0), b.Ask(x, 0, 2))
	}})
	if !slices.Equal(got, []bool{false, false, false, true, false, true}) {
		t.Error(got)
	}
}

// by hand: what one thread does alone
func TestAlone(t *testing.T) {
	for i, x := range []struct {
		n       int
		calls   []api.Call
		want    []api.Step
		answers []api.Answer
	}{
		// one key: it has one time, which is enough for itself
		{1, asks(0, 0, 0, 0), steps(store(0, 0, 0, 1), store(0, 0, 1, 1)), times(2, yes)},
		// two
		{2, asks(0, 1), steps(store(0, 0, 0, 2), load(0, 1, 0)), times(1, no)},
		{2, asks(1, 0), steps(store(0, 1, 0, 1), load(0, 0, 0)), times(1, no)},
		{2, asks(0, 1, 1, 0, 0, 1), steps(store(0, 0, 0, 2), load(0, 1, 0), store(0, 1, 0, 1), load(0, 0, 2), store(0, 0, 2, 2), load(0, 1, 1)), []api.Answer{no, yes, yes}},
		// a way to a key that waits for itself: no times left
		{2, asks(1, 1, 0, 1), steps(store(0, 1, 0, 2), store(0, 0, 0, 2), load(0, 1, 2), load(0, 1, 2)), []api.Answer{yes, no}},
		// what it waited for is forgotten behind what it waits for
		{3, asks(0, 1, 0, 2, 1, 0, 2, 0), steps(
			store(0, 0, 0, 2), load(0, 1, 0), store(0, 0, 2, 3), load(0, 2, 0),
			store(0, 1, 0, 1), load(0, 0, 3), load(0, 2, 0), store(0, 2, 0, 1), load(0, 0, 3)), []api.Answer{no, no, no, yes}},
		// a way that ends behind some keys
		{4, asks(2, 3, 1, 2, 0, 1), steps(
			store(0, 2, 0, 4), load(0, 3, 0), store(0, 1, 0, 3), load(0, 2, 4), load(0, 3, 0),
			store(0, 0, 0, 2), load(0, 1, 3), load(0, 2, 4), load(0, 3, 0)), times(3, no)},
		// a ring, and a way into it that is no part of it
		{4, asks(0, 1, 1, 2, 2, 1, 3, 0), steps(
			store(0, 0, 0, 2), load(0, 1, 0), store(0, 1, 0, 3), load(0, 2, 0), store(0, 2, 0, 2), load(0, 1, 3),
			store(0, 3, 0, 1), load(0, 0, 2), load(0, 1, 3), load(0, 2, 2), load(0, 1, 3)), []api.Answer{no, no, yes, no}},
		// two rings
		{4, asks(0, 1, 2, 3, 1, 0, 3, 2), steps(
			store(0, 0, 0, 2), load(0, 1, 0), store(0, 2, 0, 4), load(0, 3, 0), store(0, 1, 0, 1), load(0, 0, 2), store(0, 3, 0, 3), load(0, 2, 4)), []api.Answer{no, no, yes, yes}},
		// of what is no key nothing is written down
		{2, asks(0, 2, 2, 0, 0, -1, -1, 0, 2, 2, 1, 0), steps(store(0, 1, 0, 1), load(0, 0, 0)), times(6, no)},
	} {
		w := turn.New(nil)
		got := trial.Calls(w, [][]api.Call{x.calls}, does(chain.New(w, x.n)))
		if !slices.Equal(w.Trace(), x.want) || !slices.Equal(got[0], x.answers) {
			t.Errorf("%d: %v\n%v\nis to be\n%v", i, got, w.Trace(), x.want)
		}
	}
}

// what is no key, of from and of to: no step, whatever is written down already
func TestNoKey(t *testing.T) {
	for _, n := range []int{0, 1, 2, 3, api.MaxKeys} {
		strange := []int{n, n + 1, -1, -n - 1, 1 << 8, 1 << 16, 1 << 32, 1<<32 + 1, -1 << 32, math.MaxInt, math.MinInt, math.MinInt + 1}
		script := asks(0, 0)
		for _, x := range strange {
			script = append(script, ask(x, 0), ask(0, x), ask(n-1, x), ask(x, n-1), ask(x, x))
			for _, y := range strange {
				script = append(script, ask(x, y))
			}
		}
		w := turn.New(nil)
		got := trial.Calls(w, [][]api.Call{script}, does(chain.New(w, n)))
		if slices.Contains(got[0][1:], yes) || len(w.Trace()) > 1 {
			t.Errorf("%d keys: %v, %v", n, got, w.Trace())
		}
		free := chain.New(nil, n)
		for _, x := range script[1:] {
			if free.Ask(turn.Free(0), x.A, x.B) {
				t.Errorf("%d keys: %v", n, x)
			}
		}
	}
}

// rings, ways and ways into rings, of as many keys as there are: how many steps the last Ask has
func TestLongest(t *testing.T) {
	for _, n := range []int{2, 3, 4, 50, 99, api.MaxKeys} {
		way := make([]api.Call, n-1) // each waits for the next one; those at the end are asked first
		for i := range way {
			way[i] = ask(n-2-i, n-1-i)
		}
		rest := way[:n-2] // all but that of 0
		for _, x := range []struct {
			name  string
			calls []api.Call
			told  api.Answer
			steps int
		}{
			{"a ring of all", append(slices.Clone(way), ask(n-1, 0)), yes, n},
			{"a way through all", way, no, n},
			{"a way into a ring of one", append(asks(n-1, n-1), way...), no, n + 1},
			{"a ring of all others", append(asks(n-1, 1), way...), no, n + 1},
			{"itself, with a way behind it", append(slices.Clone(rest), ask(0, 0)), yes, 1},
		} {
			w := turn.New(nil)
			got := trial.Calls(w, [][]api.Call{x.calls}, does(chain.New(w, n)))
			trace := w.Trace()
			stored := len(trace) - 1
			for trace[stored].Op != api.StepStore {
				stored--
			}
			if got[0][len(x.calls)-1] != x.told || len(trace)-stored != x.steps {
				t.Errorf("%d keys, %s: %v, in %d steps", n, x.name, got[0][len(x.calls)-1], len(trace)-stored)
			}
		}
	}
}

// by hand: threads that come at one time
func TestTogether(t *testing.T) {
	for _, x := range []struct {
		name     string
		n        int
		schedule []int
		scripts  [][]api.Call
		want     []api.Step
		answers  [][]api.Answer
	}{
		{"a ring of two, of which both are written down ahead of either's look", 2, []int{0, 1, 0}, [][]api.Call{asks(0, 1), asks(1, 0)},
			steps(store(0, 0, 0, 2), store(1, 1, 0, 1), load(0, 1, 1), load(1, 0, 2)),
			[][]api.Answer{{yes}, {yes}}},
		{"a ring of two, of which one has looked before", 2, []int{0, 0, 0}, [][]api.Call{asks(0, 1), asks(1, 0)},
			steps(store(0, 0, 0, 2), load(0, 1, 0), store(1, 1, 0, 1), load(1, 0, 2)),
			[][]api.Answer{{no}, {yes}}},
		{"a ring of three from three sides", 3, []int{0, 1, 2, 2, 2, 1, 1, 0, 0}, [][]api.Call{asks(0, 1), asks(1, 2), asks(2, 0)},
			steps(store(0, 0, 0, 2), store(1, 1, 0, 3), store(2, 2, 0, 1), load(2, 0, 2), load(2, 1, 3), load(1, 2, 1), load(1, 0, 2), load(0, 1, 3), load(0, 2, 1)),
			[][]api.Answer{{yes}, {yes}, {yes}}},
		{"a ring of three, of which one comes while another looks", 3, []int{0, 1, 0, 1, 0, 1}, [][]api.Call{asks(0, 1), asks(1, 2), asks(2, 0)},
			steps(store(0, 0, 0, 2), store(1, 1, 0, 3), load(0, 1, 3), load(1, 2, 0), load(0, 2, 0), store(2, 2, 0, 1), load(2, 0, 2), load(2, 1, 3)),
			[][]api.Answer{{no}, {no}, {yes}}},
		{"what is behind the key is asked with something else, between the Store and the Load", 3, []int{1, 1, 0, 1, 0}, [][]api.Call{asks(0, 1), asks(1, 0, 1, 2)},
			steps(store(1, 1, 0, 1), load(1, 0, 0), store(0, 0, 0, 2), store(1, 1, 1, 3), load(0, 1, 3), load(1, 2, 0), load(0, 2, 0)),
			[][]api.Answer{{no}, {no, no}}},
		{"it is asked with what makes a ring, between the Store and the Load", 3, []int{1, 1, 0, 1, 0}, [][]api.Call{asks(0, 1), asks(1, 2, 1, 0)},
			steps(store(1, 1, 0, 3), load(1, 2, 0), store(0, 0, 0, 2), store(1, 1, 3, 1), load(0, 1, 1), load(1, 0, 2)),
			[][]api.Answer{{yes}, {no, yes}}},
		{"the key itself is asked with something else: its own way is gone on with", 3, []int{0, 1, 1, 0, 0}, [][]api.Call{asks(0, 1), asks(0, 2)},
			steps(store(0, 0, 0, 2), store(1, 0, 2, 3), load(1, 2, 0), load(0, 1, 0)),
			[][]api.Answer{{no}, {no}}},
		{"the same, where the way comes back", 3, []int{2, 2, 0, 1, 0}, [][]api.Call{asks(0, 1), asks(0, 2), asks(1, 0)},
			steps(store(2, 1, 0, 1), load(2, 0, 0), store(0, 0, 0, 2), store(1, 0, 2, 3), load(0, 1, 1), load(1, 2, 0)),
			[][]api.Answer{{yes}, {no}, {no}}},
		{"the last Load comes back, and no times are left", 2, []int{1, 0, 0, 1, 1, 0}, [][]api.Call{asks(0, 1), asks(1, 1, 1, 0)},
			steps(store(1, 1, 0, 2), store(0, 0, 0, 2), load(0, 1, 2), store(1, 1, 2, 1), load(1, 0, 2), load(0, 1, 1)),
			[][]api.Answer{{no}, {yes, yes}}},
		{"a way of pairs that never stood there at one time", 3, []int{1, 1, 0, 0, 1, 1, 1}, [][]api.Call{asks(0, 1), asks(1, 2, 1, 1, 2, 0)},
			steps(store(1, 1, 0, 3), load(1, 2, 0), store(0, 0, 0, 2), load(0, 1, 3), store(1, 1, 3, 2), store(1, 2, 0, 1), load(1, 0, 2), load(0, 2, 1), load(1, 1, 2), load(1, 1, 2)),
			[][]api.Answer{{yes}, {no, yes, no}}},
		{"two threads that ask the same", 2, []int{0, 1, 1, 0}, [][]api.Call{asks(1, 0), asks(1, 0)},
			steps(store(0, 1, 0, 1), store(1, 1, 1, 1), load(1, 0, 0), load(0, 0, 0)),
			[][]api.Answer{{no}, {no}}},
		{"a thread that asks by itself what no other one touches", 4, []int{0, 1, 0, 1}, [][]api.Call{asks(0, 1), asks(2, 3)},
			steps(store(0, 0, 0, 2), store(1, 2, 0, 4), load(0, 1, 0), load(1, 3, 0)),
			[][]api.Answer{{no}, {no}}},
	} {
		w := turn.New(x.schedule)
		got := trial.Calls(w, x.scripts, does(chain.New(w, x.n)))
		if !slices.Equal(w.Trace(), x.want) || !trial.Same(got, x.answers) {
			t.Errorf("%s: %v\n%v\nis to be\n%v", x.name, got, w.Trace(), x.want)
		}
	}
}

// someAsks are scripts that ask, often of few keys, for the next one, or for any; A and B are any numbers that stand for keys, and some (if others is not 0) that are none.
func someAsks(r *trial.Row, n, others, threads, most int, ops ...int) [][]api.Call {
	out := r.Scripts(threads, most, ops...)
	few := max(1, min(n, r.One(2, 3, 5, n)))
	for _, script := range out {
		for i := range script {
			from := r.Below(few)
			script[i].A, script[i].B = from, r.One(r.Below(few), (from+1)%few, (from+1)%few)
			if others != 0 && r.Below(others) == 0 {
				script[i].A, script[i].B = r.One(from, -1-from, n+from), r.One(-1, n, n+1, math.MinInt, math.MaxInt, 0)
			}
		}
	}
	return out
}

// count counts the answers of each kind, and the Asks that went as far as they may.
type count struct{ yes, no, arg, far int }

func (c *count) of(told trial.Told, n int) {
	for _, x := range slices.Concat(told.Answers...) {
		c.yes += trial.Number(x == yes)
		c.no += trial.Number(x == no)
		c.arg += trial.Number(x == arg)
	}
	loads := map[int]int{}
	for _, s := range told.Trace {
		loads[s.Thread] = trial.Number(s.Op == api.StepLoad) * (loads[s.Thread] + 1)
		c.far += trial.Number(n > 0 && loads[s.Thread] == n)
	}
}

// any calls of the chain's own, under many schedules
func TestCalls(t *testing.T) {
	r := trial.Row(1)
	var c count
	for range 4000 {
		n := r.One(0, 1, 2, 2, 3, 3, 4, 5, 9, api.MaxKeys)
		c.of(made(t, r.Schedule(120), n, someAsks(&r, n, r.One(0, 2, 9), r.One(1, 2, 3, api.MaxThreads, 20), 6, 1)), n)
	}
	if min(c.yes, c.no, c.far) < 500 || c.arg > 0 {
		t.Errorf("the calls are too tame: %v", c)
	}
}

// a free thread alone is answered as the steps say
func TestFreely(t *testing.T) {
	r := trial.Row(5)
	rings := 0
	for _, n := range []int{0, 1, 2, 3, 7, api.MaxKeys} {
		for _, id := range []int{0, 1, 255} {
			for range 30 {
				c, x := chain.New(nil, n), turn.Free(id)
				script := slices.Concat(someAsks(&r, n, 7, 3, 100, 1)...)
				for i, want := range game(n, [][]api.Call{script}).Play(nil).Answers[0] {
					rings += want.Value
					if got := does(c)(x, script[i]); got != want {
						t.Fatalf("%d keys, the call %d of %v: %v, not %v", n, i, script[:i+1], got, want)
					}
				}
			}
		}
	}
	if rings < 500 {
		t.Errorf("only %d rings", rings)
	}
}

// what New is handed beyond its limits, freely: there are no keys, or 100 of them
func TestNewFreely(t *testing.T) {
	x := turn.Free(0)
	for _, n := range []int{0, -1, math.MinInt} {
		if chain.New(nil, n).Ask(x, 0, 0) {
			t.Errorf("%d: there is a key", n)
		}
	}
	for _, n := range []int{api.MaxKeys, api.MaxKeys + 1, math.MaxInt} {
		if c := chain.New(nil, n); !c.Ask(x, 99, 99) || c.Ask(x, 100, 100) {
			t.Errorf("%d: there are not just 100 keys", n)
		}
	}
}

// P12.2

// the chapter's examples, with their steps
func TestExamples(t *testing.T) {
	for i, x := range []struct {
		script  []api.Call
		answers []api.Answer
		want    []api.Step // without the notes
	}{
		{asks(0, 1, 1, 2, 2, 0), []api.Answer{no, no, yes}, steps(store(0, 0, 0, 2), load(0, 1, 0), store(0, 1, 0, 3), load(0, 2, 0), store(0, 2, 0, 1), load(0, 0, 2), load(0, 1, 3))},
		{asks(1, 1), []api.Answer{yes}, steps(store(0, 1, 0, 2))},
		{asks(0, 1, 1, 0, 2, 0), []api.Answer{no, yes, no}, steps(
			store(0, 0, 0, 2), load(0, 1, 0), store(0, 1, 0, 1), load(0, 0, 2), store(0, 2, 0, 1), load(0, 0, 2), load(0, 1, 1), load(0, 0, 2))},
		{asks(3, 4), []api.Answer{no}, steps(store(0, 0, 0, 2), load(0, 1, 0))},
	} {
		told := plays(t, nil, 3, [][]api.Call{x.script})
		if !slices.Equal(told.Answers[0], x.answers) || !slices.Equal(trial.Bare(told.Trace), x.want) {
			t.Errorf("%d: %v", i, told)
		}
	}
}

// the notes of one thread's calls stand right around their steps
func TestNotes(t *testing.T) {
	want := steps(
		trial.Begin(0, 0), store(0, 0, 0, 2), load(0, 1, 0), trial.End(0, 0, 0),
		trial.Begin(0, 1), store(0, 1, 0, 1), load(0, 0, 2), trial.End(0, 1, 0),
		trial.Begin(0, 2), store(0, 0, 2, 1), trial.End(0, 2, 0))
	for _, schedule := range [][]int{nil, {0}, {-1, 5}, times(40, 3)} {
		if told := plays(t, schedule, 2, [][]api.Call{asks(0, 1, 1, 0, 0, 0)}); !slices.Equal(told.Trace, want) {
			t.Error(schedule, told)
		}
	}
}

// A and B are any numbers: each stands for a key
func TestModulo(t *testing.T) {
	for _, x := range []struct{ n, a, b, from, to int }{
		{3, 0, 1, 0, 1}, {3, 3, 4, 0, 1}, {3, 2, 3, 2, 0}, {3, -1, -2, 2, 1}, {3, -3, -4, 0, 2}, {3, 5, -5, 2, 1},
		{1, 7, -7, 0, 0}, {1, math.MaxInt, math.MinInt, 0, 0}, {2, math.MaxInt, math.MinInt, 1, 0},
		{10, math.MaxInt, math.MinInt, 7, 2}, {10, math.MinInt, math.MaxInt, 2, 7}, {10, math.MinInt + 1, 1<<32 + 1, 3, 7},
		{api.MaxKeys, 100, 99, 0, 99}, {api.MaxKeys, 199, -1, 99, 99}, {api.MaxKeys, -100, -101, 0, 99}, {api.MaxKeys, 50, 101, 50, 1},
	} {
		told := plays(t, nil, x.n, [][]api.Call{asks(x.a, x.b)})
		want := steps(store(0, x.from, 0, x.to+1))
		if x.from != x.to {
			want = append(want, load(0, x.to, 0))
		}
		if !slices.Equal(trial.Bare(told.Trace), want) || told.Answers[0][0].Value != trial.Number(x.from == x.to) {
			t.Error(x, told)
		}
	}
}

// many Plays, under many schedules, against the model
func TestPlay(t *testing.T) {
	r := trial.Row(2)
	var c count
	for range 5000 {
		n := r.One(1, 2, 2, 3, 3, 4, 5, 9, api.MaxKeys)
		c.of(plays(t, r.Schedule(150), n, someAsks(&r, n, r.One(0, 0, 2), r.One(1, 2, 3, api.MaxThreads), 7, 1, 1, 1, 1, r.One(0, 1, 2, -1))), n)
	}
	if min(c.yes, c.no, c.arg, c.far) < 500 {
		t.Errorf("the Plays are too tame: %v", c)
	}
}

// nobody looks at C, nor at what a call has that there is not
func TestNotLookedAt(t *testing.T) {
	for _, n := range []int{0, 1, -1, 2, math.MaxInt, math.MinInt} {
		told := plays(t, nil, 3, [][]api.Call{{{Op: 2, A: n, B: n, C: n}, {Op: 1, A: 0, B: 1, C: n}, {Op: 0, A: n, B: n, C: n}, {Op: 1, A: 1, B: 0, C: n}}})
		if !slices.Equal(told.Answers[0], []api.Answer{arg, no, arg, yes}) {
			t.Error(n, told)
		}
	}
}

// an Op that there is not is told, without a step, and the script goes on
func TestNoSuchOp(t *testing.T) {
	for _, op := range trial.Strange(1) {
		other := api.Call{Op: op, A: 1, B: 1}
		told := plays(t, nil, 2, [][]api.Call{{other, ask(1, 1)}, {other}})
		want := steps(trial.Begin(0, 0), trial.End(0, 0, api.ErrArg), trial.Begin(0, 1), trial.Begin(1, 0), trial.End(1, 0, api.ErrArg), store(0, 1, 0, 2), trial.End(0, 1, 0))
		if !slices.Equal(told.Trace, want) || !trial.Same(told.Answers, [][]api.Answer{{arg, yes}, {arg}}) {
			t.Error(op, told)
		}
	}
}

// a schedule may be shorter or longer than what is done, of any numbers
func TestSchedules(t *testing.T) {
	all := [][]api.Call{asks(0, 1, 1, 2, 0, 2), asks(1, 0, 2, 2), asks(2, 0, 1, 1)}
	for _, n := range []int{1, 2, 3, 5} {
		for _, schedule := range [][]int{nil, {}, {2}, {-1}, {-1, -2, -3, -4}, {math.MinInt, math.MaxInt}, times(500, -1), times(200, 0, 7, -5)} {
			told := plays(t, schedule, n, all)
			if again := plays(t, schedule, n, all); !again.Same(told) {
				t.Error("another time otherwise", schedule, told, again)
			}
		}
	}
}

// at the limits: eight threads, 64 calls each, as few keys as there may be, and as many
func TestGreatest(t *testing.T) {
	next, before, star, itself := make([]api.Call, 64), make([]api.Call, 64), make([]api.Call, 64), make([]api.Call, 64)
	for i := range 64 {
		next[i], before[i], star[i], itself[i] = ask(i, i+1), ask(-i, -i-1), ask(i, 0), ask(i*7, i*7)
	}
	for _, n := range []int{1, 2, 64, 65, api.MaxKeys} {
		for _, script := range [][]api.Call{next, before, star, itself, times(64, api.Call{Op: 3})} {
			for _, schedule := range [][]int{nil, times(1000, 5, 3, -1)} {
				told := plays(t, schedule, n, times(api.MaxThreads, script))
				if all := slices.Concat(told.Answers...); len(all) != api.MaxThreads*api.MaxCalls {
					t.Errorf("%d answers", len(all))
				}
			}
			plays(t, []int{-1, -1, -1, 0}, n, [][]api.Call{script})
		}
	}
	// a ring of all 100 keys, by two threads, and one way through all of it
	first, second := make([]api.Call, 0, 64), make([]api.Call, 0, 64)
	for i := range 50 {
		first, second = append(first, ask(i, i+1)), append(second, ask(50+i, 51+i))
	}
	told := plays(t, times(1000, 0), api.MaxKeys, [][]api.Call{first, second})
	if told.Answers[1][49] != yes || slices.Contains(slices.Concat(told.Answers[0], told.Answers[1][:49]), yes) {
		t.Error(told.Answers)
	}
}

func TestNoCalls(t *testing.T) {
	told := plays(t, nil, 1, [][]api.Call{nil})
	if len(told.Trace) != 0 || len(told.Answers) != 1 || len(told.Answers[0]) != 0 {
		t.Error(told)
	}
	plays(t, nil, api.MaxKeys, make([][]api.Call, api.MaxThreads))
	plays(t, nil, 1, make([][]api.Call, api.MaxThreads))
	told = plays(t, []int{1}, 2, [][]api.Call{{}, asks(0, 1, 1, 0), nil})
	if !trial.Same(told.Answers, [][]api.Answer{{}, {no, yes}, {}}) {
		t.Error(told)
	}
}

// the cells of a world that has others go behind these
func TestCellsBehindOthers(t *testing.T) {
	w := turn.New(nil)
	cell.New(w, 77)
	a, e := chain.Play(w, 3, [][]api.Call{asks(0, 2, 2, 0)})
	want := steps(store(0, 1, 0, 3), load(0, 3, 0), store(0, 3, 0, 1), load(0, 1, 3))
	if e != api.OK || !trial.Same(a, [][]api.Answer{{no, yes}}) || !slices.Equal(trial.Bare(w.Trace()), want) {
		t.Error(a, e, w.Trace())
	}
	if behind := w.Cell(); behind != 4 {
		t.Errorf("it made %d cells", behind-1)
	}
}

func TestRefused(t *testing.T) {
	script := append(asks(0, 1, 1, 0, -5, 300), api.Call{Op: 9})
	for _, n := range []int{1, 2, api.MaxKeys} {
		if err := player(n).Refuses(script); err != nil {
			t.Errorf("%d: %v", n, err)
		}
	}
	for _, n := range []int{0, -1, api.MaxKeys + 1, -api.MaxKeys, 1 << 32, 1<<32 + 1, math.MaxInt, math.MinInt} {
		for _, some := range [][]api.Call{nil, script} {
			if err := player(n).RefusesAll(some); err != nil {
				t.Errorf("%d: %v", n, err)
			}
		}
	}
}

// W6
func TestMemory(t *testing.T) {
	for _, n := range []int{1, 2, api.MaxKeys} {
		for _, script := range [][]api.Call{asks(0, 1, 1, 0), asks(0, 0), append(asks(0, 1, 1, 0, 7, -7), api.Call{Op: 9})} {
			if err := player(n).Keeps(script); err != nil {
				t.Errorf("%d of %v: %v", n, script, err)
			}
		}
	}
}
