package counter_test

import (
	"math"
	"slices"
	"testing"

	"butler/api"
	"butler/cell"
	"butler/counter"
	"butler/play"
	"butler/trial"
	"butler/turn"
)

// short names for what nearly every row is made of
func add(n int) api.Call                { return api.Call{Op: 1, A: n} }
func fine(v int) api.Answer             { return api.Answer{Value: v} }
func load(thread, at, v int) api.Step   { return trial.Step(thread, at, api.StepLoad, v, v) }
func cas(thread, at, v, x int) api.Step { return trial.Step(thread, at, api.StepCas, v, x) }
func vain(thread, at, v int) api.Step   { return trial.Step(thread, at, api.StepCas, v, v) }

var (
	sum = api.Call{Op: 2}
	ok  = api.Answer{}
	arg = api.Answer{Code: api.ErrArg}
)

func calls(l ...api.Call) []api.Call       { return l }
func answers(l ...api.Answer) []api.Answer { return l }
func steps(l ...api.Step) []api.Step       { return l }
func words(l ...int) []int                 { return l }

// times is a list, so many times one behind the other.
func times[T any](many int, l ...T) []T { return slices.Repeat(l, many) }

// adds is all that an Add does, alone.
func adds(thread, at, v, x int) []api.Step { return steps(load(thread, at, v), cas(thread, at, v, x)) }

// looks is what one time of a Sum does, where that stands in the cells.
func looks(thread int, cells ...int) []api.Step {
	var out []api.Step
	for i, v := range cells {
		out = append(out, load(thread, i, v))
	}
	return out
}

// sums is all that a Sum does, alone.
func sums(thread int, cells ...int) []api.Step { return times(2, looks(thread, cells...)...) }

// does is one of a counter's own calls.
func does(c *counter.Counter) func(t *turn.Thread, x api.Call) api.Answer {
	return func(t *turn.Thread, x api.Call) api.Answer {
		if x.Op == 1 {
			c.Add(t, x.A)
			return ok
		}
		return fine(c.Sum(t))
	}
}

// player is Play with so many shards.
func player(shards int) trial.Player {
	return func(w *turn.World, scripts [][]api.Call) ([][]api.Answer, api.Errno) {
		return counter.Play(w, shards, scripts)
	}
}

// plays carries a Play out that may not fail, and holds it against the model.
func plays(t *testing.T, schedule []int, shards int, scripts [][]api.Call) trial.Told {
	t.Helper()
	got, e := player(shards).Tell(schedule, scripts)
	if want := model(shards, scripts).Play(schedule); e != api.OK || !got.Same(want) {
		t.Fatalf("%v, %d of %v: error %d,\n%v\nis to be\n%v", schedule, shards, scripts, e, got, want)
	}
	return got
}

// made carries scripts out by the calls of a counter in which these words stand, and holds them against the model.
func made(t *testing.T, schedule, words []int, scripts [][]api.Call) trial.Told {
	t.Helper()
	got, _ := trial.Player(func(w *turn.World, scripts [][]api.Call) ([][]api.Answer, api.Errno) {
		return play.Run(w, scripts, does(counter.Aged(w, words...))), api.OK
	}).Tell(schedule, scripts)
	if want := game(words, scripts).Play(schedule); !got.Same(want) {
		t.Fatalf("%v, %v of %v:\n%v\nis to be\n%v", schedule, words, scripts, got, want)
	}
	return got
}

// P10.1

// New makes a cell for each shard, in their order, 0 at first; a thread adds to that of its number
func TestNew(t *testing.T) {
	for _, x := range []struct{ shards, many int }{
		{1, 1}, {2, 2}, {3, 3}, {7, 7}, {15, 15}, {api.MaxShards, 16},
		{0, 1}, {-1, 1}, {-api.MaxShards, 1}, {math.MinInt, 1}, {17, 16}, {1 << 32, 16}, {1<<32 + 1, 16}, {math.MaxInt, 16},
	} {
		for _, ahead := range []int{0, 1, 4} {
			w := turn.New(nil)
			for range ahead {
				cell.New(w, 9)
			}
			c := counter.New(w, x.shards)
			if behind := w.Cell(); behind != ahead+x.many {
				t.Errorf("%d shards behind %d cells take %d", x.shards, ahead, behind-ahead)
			}
			got := trial.Calls(w, [][]api.Call{calls(sum, add(7), sum)}, does(c))
			stands := append(words(one+7), make([]int, x.many-1)...)
			want := slices.Concat(sums(0, make([]int, x.many)...), adds(0, 0, 0, one+7), sums(0, stands...))
			for i := range want {
				want[i].Cell += ahead
			}
			if !slices.Equal(w.Trace(), want) || !slices.Equal(got[0], answers(fine(0), ok, fine(7))) {
				t.Errorf("%d shards behind %d cells: %v, %v", x.shards, ahead, got, w.Trace())
			}
		}
	}
}

// which shard is a thread's: more threads than shards, and more shards than threads
func TestWhose(t *testing.T) {
	for _, many := range []int{1, 2, 3, 5, 7, 8, 15, api.MaxShards} {
		for _, threads := range []int{1, 2, 8, 40, 256} {
			w := turn.New(nil)
			c := counter.New(w, many)
			scripts := make([][]api.Call, threads)
			for i := range scripts {
				scripts[i] = calls(add(i))
			}
			trial.Calls(w, scripts, does(c))
			for _, s := range w.Trace() {
				if s.Cell != s.Thread%many {
					t.Fatalf("%d shards: %v", many, s)
				}
			}
		}
	}
}

// the counters of a world know nothing of each other
func TestTwo(t *testing.T) {
	w := turn.New(nil)
	a, b := counter.New(w, 2), counter.New(w, 1)
	var got []int
	w.Run([]func(*turn.Thread){func(x *turn.Thread) {
		a.Add(x, 3)
		got = append(got, a.Sum(x), b.Sum(x))
		b.Add(x, -4)
		got = append(got, a.Sum(x), b.Sum(x))
	}})
	if !slices.Equal(got, []int{3, 0, 3, -4}) {
		t.Error(got)
	}
}

// by hand: what one thread does alone, from any words on
func TestAlone(t *testing.T) {
	for i, x := range []struct {
		words   []int
		calls   []api.Call
		want    []api.Step
		answers []api.Answer
	}{
		{words(0), calls(sum), sums(0, 0), answers(fine(0))},
		{words(0, 0, 0), calls(sum, sum), times(4, looks(0, 0, 0, 0)...), answers(fine(0), fine(0))},
		{words(0), calls(add(5), sum, add(-7), sum), slices.Concat(adds(0, 0, 0, one+5), sums(0, one+5), adds(0, 0, one+5, 3*one-2), sums(0, 3*one-2)), answers(ok, fine(5), ok, fine(-2))},
		// of 0, too
		{words(0), calls(add(0), add(0), sum), slices.Concat(adds(0, 0, 0, one), adds(0, 0, one, 2*one), sums(0, 2*one)), answers(ok, ok, fine(0))},
		// what comes in is no script's: it is not cut off at 1000
		{words(0), calls(add(1000), add(-2999), sum), slices.Concat(adds(0, 0, 0, one+1000), adds(0, 0, one+1000, 3*one-1999), sums(0, 3*one-1999)), answers(ok, ok, fine(-1999))},
		// the least and the greatest int, and what is more or less than 32 bits hold
		{words(0), calls(add(math.MaxInt), sum), slices.Concat(adds(0, 0, 0, 2*one-1), sums(0, 2*one-1)), answers(ok, fine(-1))},
		{words(0), calls(add(math.MinInt), sum), slices.Concat(adds(0, 0, 0, one), sums(0, one)), answers(ok, fine(0))},
		{words(one - 1), calls(add(math.MaxInt), sum), slices.Concat(adds(0, 0, one-1, 2*one-2), sums(0, 2*one-2)), answers(ok, fine(-2))},
		{words(5), calls(add(math.MinInt+1), sum), slices.Concat(adds(0, 0, 5, one+6), sums(0, one+6)), answers(ok, fine(6))},
		{words(5), calls(add(one), add(-one), add(7*one+half), sum), slices.Concat(adds(0, 0, 5, one+5), adds(0, 0, one+5, 2*one+5), adds(0, 0, 2*one+5, 3*one+half+5), sums(0, 3*one+half+5)), answers(ok, ok, ok, fine(5-half))},
		// over 2^31, and back below it
		{words(0), calls(add(half-1), sum, add(1), sum, add(-1), sum), slices.Concat(
			adds(0, 0, 0, one+half-1), sums(0, one+half-1), adds(0, 0, one+half-1, 2*one+half), sums(0, 2*one+half), adds(0, 0, 2*one+half, 3*one+half-1), sums(0, 3*one+half-1)),
			answers(ok, fine(half-1), ok, fine(-half), ok, fine(half-1))},
		{words(0), calls(add(half), sum), slices.Concat(adds(0, 0, 0, one+half), sums(0, one+half)), answers(ok, fine(-half))},
		// round 2^32, both ways: VERSION is 1 more, and nothing else
		{words(3*one - 1), calls(add(1), add(-1), sum), slices.Concat(adds(0, 0, 3*one-1, 3*one), adds(0, 0, 3*one, 5*one-1), sums(0, 5*one-1)), answers(ok, ok, fine(-1))},
		// VERSION goes round 2^30, whatever becomes of AMOUNT
		{words(last), calls(add(0), sum), slices.Concat(adds(0, 0, last, 0), sums(0, 0)), answers(ok, fine(0))},
		{words(last + 5), calls(add(2), add(2)), slices.Concat(adds(0, 0, last+5, 7), adds(0, 0, 7, one+9)), answers(ok, ok)},
		{words(last + one - 1), calls(sum, add(1), sum), slices.Concat(sums(0, last+one-1), adds(0, 0, last+one-1, 0), sums(0, 0)), answers(fine(-1), ok, fine(0))},
		{words(last), calls(add(-1), sum), slices.Concat(adds(0, 0, last, one-1), sums(0, one-1)), answers(ok, fine(-1))},
		{words(last - one + 3), calls(add(-3)), adds(0, 0, last-one+3, last), answers(ok)},
		// each AMOUNT by itself stands for a number, and these together are cut off nowhere
		{words(one-1, 1, half, 7*one+half-1), calls(sum), sums(0, one-1, 1, half, 7*one+half-1), answers(fine(-1))},
		{times(16, half-1), calls(sum), sums(0, times(16, half-1)...), answers(fine(16 * (half - 1)))},
		{times(16, last+half), calls(sum), sums(0, times(16, last+half)...), answers(fine(-16 * half))},
		{words(half-1, half-1), calls(add(1), sum), slices.Concat(adds(0, 0, half-1, one+half), sums(0, one+half, half-1)), answers(ok, fine(-1))},
	} {
		w := turn.New(nil)
		got := trial.Calls(w, [][]api.Call{x.calls}, does(counter.Aged(w, x.words...)))
		if !slices.Equal(w.Trace(), x.want) || !slices.Equal(got[0], x.answers) {
			t.Errorf("%d: %v\n%v\nis to be\n%v", i, got, w.Trace(), x.want)
		}
	}
}

// by hand: threads that come at one time
func TestTogether(t *testing.T) {
	for _, x := range []struct {
		name     string
		words    []int
		schedule []int
		scripts  [][]api.Call
		want     []api.Step
		answers  [][]api.Answer
	}{
		{"two Adds, of which one is too late", words(0), []int{0, 1, 1}, [][]api.Call{{add(5)}, {add(-7)}},
			slices.Concat(steps(load(0, 0, 0)), adds(1, 0, 0, 2*one-7), steps(vain(0, 0, 2*one-7)), adds(0, 0, 2*one-7, 3*one-2)),
			[][]api.Answer{{ok}, {ok}}},
		{"an Add that is too late twice", words(0), []int{0, 1, 1, 0, 0, 1, 1}, [][]api.Call{{add(5)}, {add(1), add(2)}},
			slices.Concat(steps(load(0, 0, 0)), adds(1, 0, 0, one+1), steps(vain(0, 0, one+1), load(0, 0, one+1)), adds(1, 0, one+1, 2*one+3), steps(vain(0, 0, 2*one+3)), adds(0, 0, 2*one+3, 3*one+8)),
			[][]api.Answer{{ok}, {ok, ok}}},
		{"an Add, and the same AMOUNT with another VERSION", words(9), []int{0, 1, 1}, [][]api.Call{{add(5)}, {add(0)}},
			slices.Concat(steps(load(0, 0, 9)), adds(1, 0, 9, one+9), steps(vain(0, 0, one+9)), adds(0, 0, one+9, 2*one+14)),
			[][]api.Answer{{ok}, {ok}}},
		{"two Adds to shards of their own", words(0, 0), []int{0, 1, 1, 0}, [][]api.Call{{add(5)}, {add(-7)}},
			slices.Concat(steps(load(0, 0, 0)), adds(1, 1, 0, 2*one-7), steps(cas(0, 0, 0, one+5))),
			[][]api.Answer{{ok}, {ok}}},
		{"a Sum between whose two times a cell is changed", words(0, 0), []int{0, 0, 1, 1}, [][]api.Call{{sum}, {add(3)}},
			slices.Concat(looks(0, 0, 0), adds(1, 1, 0, one+3), looks(0, 0, one+3), sums(0, 0, one+3)),
			[][]api.Answer{{fine(3)}, {ok}}},
		{"one that finds so at its first look: it looks at all others, too", words(0, 0, 0), []int{1, 1, 1, 0, 0}, [][]api.Call{{add(3)}, {sum}},
			slices.Concat(looks(1, 0, 0, 0), adds(0, 0, 0, one+3), looks(1, one+3, 0, 0), sums(1, one+3, 0, 0)),
			[][]api.Answer{{ok}, {fine(3)}}},
		{"a cell that is changed, and changed back to the same AMOUNT", words(0, 8), []int{0, 0, 1, 1, 1, 1}, [][]api.Call{{sum}, {add(3), add(-3)}},
			slices.Concat(looks(0, 0, 8), adds(1, 1, 8, one+11), adds(1, 1, one+11, 2*one+8), looks(0, 0, 2*one+8), sums(0, 0, 2*one+8)),
			[][]api.Answer{{fine(8)}, {ok, ok}}},
		{"a cell to which nothing is added, whose VERSION goes round", words(0, last+8), []int{0, 0, 1, 1}, [][]api.Call{{sum}, {add(0)}},
			slices.Concat(looks(0, 0, last+8), adds(1, 1, last+8, 8), looks(0, 0, 8), sums(0, 0, 8)),
			[][]api.Answer{{fine(8)}, {ok}}},
		{"two cells that are changed so that the sum is the same", words(5, 5, 0), []int{2, 2, 2, 0, 0, 0, 0}, [][]api.Call{{add(1)}, {add(-1)}, {sum}},
			slices.Concat(looks(2, 5, 5, 0), adds(0, 0, 5, one+6), adds(1, 1, 5, one+4), looks(2, one+6, one+4, 0), sums(2, one+6, one+4, 0)),
			[][]api.Answer{{ok}, {ok}, {fine(10)}}},
		{"a change ahead of the first look at that cell", words(0, 0), []int{0, 1, 1}, [][]api.Call{{sum}, {add(3)}},
			slices.Concat(steps(load(0, 0, 0)), adds(1, 1, 0, one+3), steps(load(0, 1, one+3)), looks(0, 0, one+3)),
			[][]api.Answer{{fine(3)}, {ok}}},
		{"a change behind the first look at that cell, ahead of the second cell's", words(0, 0), []int{1, 0, 0}, [][]api.Call{{add(3)}, {sum}},
			slices.Concat(steps(load(1, 0, 0)), adds(0, 0, 0, one+3), steps(load(1, 1, 0)), looks(1, one+3, 0), sums(1, one+3, 0)),
			[][]api.Answer{{ok}, {fine(3)}}},
		{"a change behind the second look at that cell: it is too late for the Sum", words(0, 0), []int{1, 1, 1, 0, 0}, [][]api.Call{{add(3)}, {sum}},
			slices.Concat(looks(1, 0, 0), steps(load(1, 0, 0)), adds(0, 0, 0, one+3), steps(load(1, 1, 0))),
			[][]api.Answer{{ok}, {fine(0)}}},
		{"a change ahead of the second look at the other cell", words(0, 0), []int{0, 0, 0, 1, 1}, [][]api.Call{{sum}, {add(3)}},
			slices.Concat(looks(0, 0, 0), steps(load(0, 0, 0)), adds(1, 1, 0, one+3), steps(load(0, 1, one+3)), sums(0, 0, one+3)),
			[][]api.Answer{{fine(3)}, {ok}}},
		{"a Sum that is in vain three times", words(0), []int{0, 1, 1, 0, 0, 1, 1, 0, 0, 1, 1}, [][]api.Call{{sum}, {add(1), add(1), add(1)}},
			slices.Concat(looks(0, 0), adds(1, 0, 0, one+1), sums(0, one+1), adds(1, 0, one+1, 2*one+2), sums(0, 2*one+2), adds(1, 0, 2*one+2, 3*one+3), looks(0, 3*one+3), sums(0, 3*one+3)),
			[][]api.Answer{{fine(3)}, {ok, ok, ok}}},
		{"two Sums at one time", words(4, 0), []int{0, 1, 1, 0}, [][]api.Call{{sum}, {sum}},
			slices.Concat(steps(load(0, 0, 4)), looks(1, 4, 0), steps(load(0, 1, 0)), steps(load(1, 0, 4), load(0, 0, 4), load(1, 1, 0), load(0, 1, 0))),
			[][]api.Answer{{fine(4)}, {fine(4)}}},
		{"an Add that is under way, and a Sum that does not see it", words(0), []int{0, 1, 1}, [][]api.Call{{add(3)}, {sum}},
			slices.Concat(steps(load(0, 0, 0)), sums(1, 0), steps(cas(0, 0, 0, one+3))),
			[][]api.Answer{{ok}, {fine(0)}}},
	} {
		w := turn.New(x.schedule)
		got := trial.Calls(w, x.scripts, does(counter.Aged(w, x.words...)))
		if !slices.Equal(w.Trace(), x.want) || !trial.Same(got, x.answers) {
			t.Errorf("%s: %v\n%v\nis to be\n%v", x.name, got, w.Trace(), x.want)
		}
	}
}

// someScripts add all kinds of numbers.
func someScripts(r *trial.Row, threads, most int, ops ...int) [][]api.Call {
	out := r.Scripts(threads, most, ops...)
	for _, script := range out {
		for i := range script {
			script[i].A = r.One(0, r.Below(5), -r.Below(5), r.Below(5000), -r.Below(5000), half-1, half, -half, -half-1, one, one-1, math.MaxInt, math.MinInt)
		}
	}
	return out
}

// any calls of the counter's own, from many words on, under many schedules
func TestCalls(t *testing.T) {
	r := trial.Row(1)
	failed, round, below := 0, 0, 0
	for range 3000 {
		words := make([]int, r.One(1, 1, 2, 2, 3, 5, api.MaxShards))
		for i := range words {
			words[i] = one*r.One(0, 77, versions-1, versions-2, versions-3) + r.One(0, 1, r.Below(half), half-1, half, half+r.Below(half), one-1)
		}
		told := made(t, r.Schedule(120), words, someScripts(&r, r.One(1, 2, 3, api.MaxThreads, 20), 6, 1, 1, 2))
		failed += told.Count(trial.Fails)
		round += told.Count(func(s api.Step) bool { return trial.Does(s) && s.Old/one > s.New/one })
		for _, x := range slices.Concat(told.Answers...) {
			below += trial.Number(x.Value < 0)
		}
	}
	if min(failed, round, below) < 500 {
		t.Errorf("the calls are too tame: %d failed, %d went round, %d sums below 0", failed, round, below)
	}
}

// a free thread alone is answered as the steps say
func TestFreely(t *testing.T) {
	r := trial.Row(5)
	for _, shards := range []int{-3, 0, 1, 2, 3, 7, api.MaxShards, api.MaxShards + 9} {
		for _, id := range []int{0, 1, 15, 16, 255} {
			c, x := counter.New(nil, shards), turn.Free(id)
			script := append(slices.Concat(someScripts(&r, 3, 200, 1, 2)...), sum)
			for i, want := range model1(script).Play(nil).Answers[0] {
				if got := does(c)(x, script[i]); got != want {
					t.Fatalf("%d shards, the call %d of %v: %v, not %v", shards, i, script[:i+1], got, want)
				}
			}
		}
	}
}

// model1 is one shard that one thread adds to.
func model1(script []api.Call) trial.Game { return game(words(0), [][]api.Call{script}) }

// threads that go freely have the shards of their numbers, too: an AMOUNT that two of them have goes round, those of each do not
func TestWhoseFreely(t *testing.T) {
	for _, x := range []struct{ shards, first, second, want int }{
		{1, 0, 1, -half}, {2, 0, 1, half}, {2, 0, 2, -half}, {2, 3, 255, -half}, {3, 255, 0, -half}, {3, 255, 254, half},
		{api.MaxShards, 0, 15, half}, {api.MaxShards, 0, 16, -half}, {api.MaxShards, 15, 255, -half}, {api.MaxShards + 1, 0, 16, -half}, {0, 7, 8, -half},
	} {
		c := counter.New(nil, x.shards)
		c.Add(turn.Free(x.first), half-1)
		c.Add(turn.Free(x.second), 1)
		if got := c.Sum(turn.Free(99)); got != x.want {
			t.Errorf("%v: %d", x, got)
		}
	}
}

// P10.2

// the chapter's examples, with their steps
func TestExamples(t *testing.T) {
	const v = 1 << 32
	for i, x := range []struct {
		shards  int
		scripts [][]api.Call
		answers [][]api.Answer
		want    []api.Step // without the notes
	}{
		{2, [][]api.Call{{add(5), sum}, {add(-7)}}, [][]api.Answer{{ok, fine(-2)}, {ok}}, steps(
			load(0, 0, 0), load(1, 1, 0), cas(0, 0, 0, v+5), cas(1, 1, 0, v+v-7), load(0, 0, v+5), load(0, 1, v+v-7), load(0, 0, v+5), load(0, 1, v+v-7))},
		{1, [][]api.Call{{add(5), sum}, {add(-5)}}, [][]api.Answer{{ok, fine(5)}, {ok}}, steps(
			load(0, 0, 0), load(1, 0, 0), cas(0, 0, 0, v+5), vain(1, 0, v+5), load(0, 0, v+5), load(1, 0, v+5), load(0, 0, v+5), cas(1, 0, v+5, 2*v))},
		{1, [][]api.Call{{add(2999)}, {sum, sum}}, [][]api.Answer{{ok}, {fine(999), fine(999)}}, steps(
			load(0, 0, 0), load(1, 0, 0), cas(0, 0, 0, v+999), load(1, 0, v+999), load(1, 0, v+999), load(1, 0, v+999), load(1, 0, v+999), load(1, 0, v+999))},
		{3, [][]api.Call{{{Op: 3}}}, [][]api.Answer{{arg}}, nil},
	} {
		told := plays(t, nil, x.shards, x.scripts)
		if !trial.Same(told.Answers, x.answers) || !slices.Equal(trial.Bare(told.Trace), x.want) {
			t.Errorf("%d: %v", i, told)
		}
	}
}

// the notes of one thread's calls stand right around their steps
func TestNotes(t *testing.T) {
	want := slices.Concat(steps(trial.Begin(0, 0)), adds(0, 0, 0, 2*one-3), steps(trial.End(0, 0, 0), trial.Begin(0, 1)), sums(0, 2*one-3, 0), steps(trial.End(0, 1, 0)))
	for _, schedule := range [][]int{nil, {0}, {-1, 5}, times(40, 3)} {
		if told := plays(t, schedule, 2, [][]api.Call{{add(-3), sum}}); !slices.Equal(told.Trace, want) {
			t.Error(schedule, told)
		}
	}
}

// what is added is the rest by 1000, with A's sign
func TestRests(t *testing.T) {
	for _, x := range [][2]int{
		{0, 0}, {1, 1}, {-1, -1}, {999, 999}, {1000, 0}, {1001, 1}, {-999, -999}, {-1000, 0}, {-1001, -1}, {2999, 999}, {-2999, -999},
		{math.MaxInt, 807}, {math.MinInt, -808}, {math.MinInt + 1, -807}, {1 << 32, 296}, {-1 << 31, -648},
	} {
		told := plays(t, nil, 2, [][]api.Call{{add(x[0]), sum}})
		if !slices.Equal(told.Answers[0], answers(ok, fine(x[1]))) {
			t.Error(x, told)
		}
	}
}

// many Plays, under many schedules, against the model
func TestPlay(t *testing.T) {
	r := trial.Row(2)
	seen := map[api.Errno]int{}
	failed, below := 0, 0
	for range 5000 {
		shards := 1 + r.Below(r.One(1, 2, 3, api.MaxShards))
		told := plays(t, r.Schedule(150), shards, someScripts(&r, r.One(1, 2, 3, api.MaxThreads), 7, 1, 1, 2, 2, r.One(0, 1, 2, 3, -1)))
		failed += trial.Number(told.Count(trial.Fails) > 0)
		for _, x := range slices.Concat(told.Answers...) {
			seen[x.Code]++
			below += trial.Number(x.Value < 0)
		}
	}
	if min(failed, below, seen[api.OK], seen[api.ErrArg]) < 500 || len(seen) != 2 {
		t.Errorf("the Plays are too tame: %d failed, %d sums below 0, answers %v", failed, below, seen)
	}
}

// only Op 1 looks at A, nobody at B and C
func TestNotLookedAt(t *testing.T) {
	for _, n := range []int{0, 1, -1, 2, math.MaxInt, math.MinInt} {
		told := plays(t, nil, 1, [][]api.Call{{{Op: 3, A: n, B: n, C: n}, {Op: 2, A: n, B: n, C: n}, {Op: 1, A: 5, B: n, C: n}, {Op: 2, A: n, B: n, C: n}, {Op: 0, A: n, B: n, C: n}}})
		if !slices.Equal(told.Answers[0], answers(arg, fine(0), ok, fine(5), arg)) {
			t.Error(n, told)
		}
	}
}

// an Op that there is not is told, without a step, and the script goes on
func TestNoSuchOp(t *testing.T) {
	for _, op := range trial.Strange(2) {
		no := api.Call{Op: op, A: 7}
		told := plays(t, nil, 1, [][]api.Call{{no, add(8)}, {no}})
		want := slices.Concat(steps(trial.Begin(0, 0), trial.End(0, 0, api.ErrArg), trial.Begin(0, 1), trial.Begin(1, 0), trial.End(1, 0, api.ErrArg)), adds(0, 0, 0, one+8), steps(trial.End(0, 1, 0)))
		if !slices.Equal(told.Trace, want) || !trial.Same(told.Answers, [][]api.Answer{{arg, ok}, {arg}}) {
			t.Error(op, told)
		}
	}
}

// a schedule may be shorter or longer than what is done, of any numbers
func TestSchedules(t *testing.T) {
	all := [][]api.Call{{add(1), add(2), sum}, {add(-3), sum, sum}, {sum, add(4)}}
	for _, shards := range []int{1, 2, 5} {
		for _, schedule := range [][]int{nil, {}, {2}, {-1}, {-1, -2, -3, -4}, {math.MinInt, math.MaxInt}, times(500, -1), times(200, 0, 7, -5)} {
			told := plays(t, schedule, shards, all)
			if again := plays(t, schedule, shards, all); !again.Same(told) {
				t.Error("another time otherwise", schedule, told, again)
			}
		}
	}
}

// at the limits: eight threads, 64 calls each, as few shards as there may be, and as many
func TestGreatest(t *testing.T) {
	for _, shards := range []int{1, 2, api.MaxShards} {
		for _, script := range [][]api.Call{times(64, add(999)), times(64, add(-999)), times(64, sum), times(32, add(1), sum), append(times(32, add(-2)), times(32, sum)...), times(64, api.Call{Op: 3})} {
			for _, schedule := range [][]int{nil, times(1000, 5, 3, -1)} {
				told := plays(t, schedule, shards, times(api.MaxThreads, script))
				if all := slices.Concat(told.Answers...); len(all) != api.MaxThreads*api.MaxCalls {
					t.Errorf("%d answers", len(all))
				}
			}
			plays(t, []int{-1, -1, -1, 0}, shards, [][]api.Call{script})
		}
	}
}

func TestNoCalls(t *testing.T) {
	told := plays(t, nil, 1, [][]api.Call{nil})
	if len(told.Trace) != 0 || len(told.Answers) != 1 || len(told.Answers[0]) != 0 {
		t.Error(told)
	}
	plays(t, nil, api.MaxShards, make([][]api.Call, api.MaxThreads))
	plays(t, nil, 1, make([][]api.Call, api.MaxThreads))
	told = plays(t, []int{1}, 2, [][]api.Call{{}, {add(3), sum}, nil})
	if !trial.Same(told.Answers, [][]api.Answer{{}, {ok, fine(3)}, {}}) {
		t.Error(told)
	}
}

// the cells of a world that has others go behind these
func TestCellsBehindOthers(t *testing.T) {
	w := turn.New(nil)
	cell.New(w, 77)
	a, e := counter.Play(w, 3, [][]api.Call{{add(7), sum}})
	want := append(adds(0, 0, 0, one+7), sums(0, one+7, 0, 0)...)
	for i := range want {
		want[i].Cell++
	}
	if e != api.OK || !trial.Same(a, [][]api.Answer{{ok, fine(7)}}) || !slices.Equal(trial.Bare(w.Trace()), want) {
		t.Error(a, e, w.Trace())
	}
	if behind := w.Cell(); behind != 4 {
		t.Errorf("it made %d cells", behind-1)
	}
}

func TestRefused(t *testing.T) {
	script := calls(add(7), sum, sum, api.Call{Op: 9})
	for _, shards := range []int{1, 2, api.MaxShards} {
		if err := player(shards).Refuses(script); err != nil {
			t.Errorf("%d: %v", shards, err)
		}
	}
	for _, shards := range []int{0, -1, api.MaxShards + 1, -api.MaxShards, 1 << 32, 1<<32 + 1, math.MaxInt, math.MinInt} {
		for _, some := range [][]api.Call{nil, script} {
			if err := player(shards).RefusesAll(some); err != nil {
				t.Errorf("%d: %v", shards, err)
			}
		}
	}
}

// P10.3

func TestMemory(t *testing.T) {
	for _, shards := range []int{1, 2, api.MaxShards} {
		for _, script := range [][]api.Call{{add(7), add(-8)}, {add(7), sum}, {sum, add(7), sum, {Op: 9}}} {
			if err := player(shards).Keeps(script); err != nil {
				t.Errorf("%d of %v: %v", shards, script, err)
			}
		}
	}
}
