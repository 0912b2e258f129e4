package counter_test

import (
	"errors"
	"slices"
	"strconv"
	"sync/atomic"
	"testing"

	"butler/api"
	"butler/counter"
	"butler/history"
	"butler/trial"
	"butler/turn"
)

// What follows is read off the traces alone, without the model.

// reader goes through a trace, and takes each Cas that was done for the time at which its Add was carried out.
type reader struct {
	trial.Told
	shards  int
	scripts [][]api.Call
	total   int   // what was added so far
	changes []int // how often something was added to each shard
	going   int   // how many Adds are under way
	again   int   // how many Sums looked more than twice at a shard
	quiet   int   // how many Sums went while no Add was under way
	now     []current
}

// current is the call that a thread is in.
type current struct {
	call  api.Call
	steps int
	done  int   // how many Cas of it were done
	were  []int // all totals that there were since it began
	seen  []int // Load by Load, how often that shard had been changed
	alone bool  // no Add was under way since it began
}

func (r *reader) read() error {
	r.changes, r.now = make([]int, r.shards), make([]current, len(r.scripts))
	for i, s := range r.Trace {
		if s.Thread < 0 {
			return errors.New("stuck")
		}
		if err := r.step(&r.now[s.Thread], s); err != nil {
			return errors.New("at " + strconv.Itoa(i) + ": " + err.Error())
		}
	}
	return nil
}

func (r *reader) step(now *current, s api.Step) error {
	switch s.Op {
	case api.StepBegin:
		r.begin(now, r.scripts[s.Thread][s.Old])
		return nil
	case api.StepEnd:
		return r.end(now, r.Answers[s.Thread][s.Old])
	case api.StepLoad:
		now.steps++
		now.seen = append(now.seen, r.changes[s.Cell])
		return nil
	case api.StepCas:
		now.steps++
		return r.cas(now, s)
	}
	return errors.New("what no call does")
}

// cas tells, too, that one is in vain only if somebody else has come further.
func (r *reader) cas(now *current, s api.Step) error {
	if now.call.Op != 1 || s.Cell != s.Thread%r.shards || len(now.seen) == 0 {
		return errors.New("it adds where, or when, it should not")
	}
	if same := now.seen[len(now.seen)-1] == r.changes[s.Cell]; trial.Does(s) != same {
		return errors.New("a Cas that should not be so")
	}
	if trial.Fails(s) {
		return nil
	}
	now.done++
	r.changes[s.Cell]++
	r.total += now.call.A % 1000
	for i := range r.now {
		r.now[i].were = append(r.now[i].were, r.total)
	}
	return nil
}

func (r *reader) begin(now *current, c api.Call) {
	if c.Op == 1 {
		r.going++
		for i := range r.now {
			r.now[i].alone = false
		}
	}
	*now = current{call: c, were: []int{r.total}, alone: r.going == 0}
}

// end looks at what a call has done, and is answered.
func (r *reader) end(now *current, x api.Answer) error {
	switch now.call.Op {
	case 1:
		r.going--
		if x != ok || now.done != 1 || now.steps != 2*len(now.seen) {
			return errors.New("it was not added once")
		}
	case 2:
		return r.endSum(now, x)
	default:
		if x != arg || now.steps != 0 {
			return errors.New("there is no such call")
		}
	}
	return nil
}

// endSum is P10.4, since each Add is at its Cas, and a Sum can be where there was its total; and the second half of P10.5. A Sum looks again just if a shard was changed between.
func (r *reader) endSum(now *current, x api.Answer) error {
	if x.Code != api.OK || !slices.Contains(now.were, x.Value) {
		return errors.New("there never was that sum")
	}
	if now.steps%(2*r.shards) != 0 || now.alone && now.steps != 2*r.shards {
		return errors.New("it looked " + strconv.Itoa(now.steps) + " times")
	}
	rounds := slices.Collect(slices.Chunk(now.seen, 2*r.shards))
	for i, round := range rounds {
		if same := slices.Equal(round[:r.shards], round[r.shards:]); same != (i == len(rounds)-1) {
			return errors.New("it looked again, or not, where it should not")
		}
	}
	r.again += trial.Number(len(rounds) > 1)
	r.quiet += trial.Number(now.alone)
	return nil
}

// whole is the first half of P10.5.
func (r *reader) whole() error {
	all := 0
	for _, script := range r.scripts {
		for _, c := range script {
			all += trial.Number(c.Op == 1) * (c.A % 1000)
		}
	}
	if left := sumOf(r.Stands(make([]int, r.shards))); left != all || r.total != all {
		return errors.New("all is " + strconv.Itoa(left) + ", not " + strconv.Itoa(all))
	}
	return nil
}

// inOneOrder is P10.4, as far as it is not too long for a history.
func (r *reader) inOneOrder() error {
	l, e := history.Of(r.scripts, r.Answers, r.Trace)
	if e != api.OK {
		return e
	}
	strange := func(x api.Event) bool { return x.Op != 1 && x.Op != 2 } // of these an object knows no answer
	if l = slices.DeleteFunc(l, strange); len(l) > api.MaxHistory {
		return nil
	}
	if linear, e := history.Linear(3, 0, l); !linear || e != api.OK {
		return errors.New("there is no such order")
	}
	return nil
}

// follows plays, and asks for all that follows.
func follows(t *testing.T, schedule []int, shards int, scripts [][]api.Call) *reader {
	t.Helper()
	told, e := player(shards).Tell(schedule, scripts)
	if e != api.OK || told.Stuck {
		t.Fatal(schedule, shards, scripts, e, told)
	}
	r := &reader{Told: told, shards: shards, scripts: scripts}
	for _, look := range []func() error{r.read, r.whole, r.inOneOrder} {
		if err := look(); err != nil {
			t.Fatalf("%v, %d of %v: %v: %v", schedule, shards, scripts, err, told)
		}
	}
	return r
}

func TestFollows(t *testing.T) {
	r := trial.Row(3)
	failed, again, quiet, short := 0, 0, 0, 0
	for range 12000 {
		shards := 1 + r.Below(r.One(1, 2, 3, 4, api.MaxShards))
		p := follows(t, r.Schedule(300), shards, someScripts(&r, r.One(2, 3, 4, api.MaxThreads), 6, 1, 1, 2, 2, 1+r.Below(3)))
		failed += p.Count(trial.Fails)
		again += p.again
		quiet += p.quiet
		short += trial.Number(len(slices.Concat(p.scripts...)) <= api.MaxHistory)
	}
	if min(failed, again, quiet, short) < 1000 {
		t.Errorf("the Plays are too tame: %d failed, %d Sums looked again, %d went alone, %d short ones", failed, again, quiet, short)
	}
}

func TestFollowsAtTheLimits(t *testing.T) {
	r := trial.Row(4)
	for _, schedule := range [][]int{nil, times(3000, 7, -3, 2, 2, 100)} {
		for _, shards := range []int{1, 2, 7, api.MaxShards} {
			all := make([][]api.Call, api.MaxThreads)
			for i := range all {
				for range api.MaxCalls {
					all[i] = append(all[i], api.Call{Op: r.One(1, 1, 2), A: r.One(i, -1, 999, -999, 1000, -1000)})
				}
			}
			follows(t, schedule, shards, all)
			follows(t, schedule, shards, times(api.MaxThreads, times(api.MaxCalls, add(-999))))
			follows(t, schedule, shards, times(api.MaxThreads, times(api.MaxCalls/2, add(999), sum)))
		}
	}
}

// whatever the schedule: all orders there are, against the model, too
func TestInAllOrders(t *testing.T) {
	for _, x := range []struct {
		shards  int
		scripts [][]api.Call
	}{
		{3, [][]api.Call{{add(1), add(-2), sum}}},
		{1, [][]api.Call{{add(1)}, {add(-2)}}},
		{1, [][]api.Call{{add(1)}, {add(2)}, {add(-4)}}},
		{1, [][]api.Call{{add(1), add(-1)}, {sum}}},
		{1, [][]api.Call{{add(1)}, {sum, sum}, {add(2)}}},
		{2, [][]api.Call{{add(0)}, {sum}}},
		{2, [][]api.Call{{add(1), add(-1)}, {sum}}},
		{2, [][]api.Call{{sum}, {add(1), add(-1)}}},
		{2, [][]api.Call{{add(1)}, {add(2)}, {sum}}},
		{3, [][]api.Call{{add(1)}, {sum}, {add(2)}}},
	} {
		many := 0
		for schedule := range model(x.shards, x.scripts).Schedules {
			plays(t, schedule, x.shards, x.scripts)
			follows(t, schedule, x.shards, x.scripts)
			many++
		}
		if many < 2 && len(x.scripts) > 1 {
			t.Errorf("%v: %d orders", x, many)
		}
	}
}

// and where a VERSION, or an AMOUNT, goes round, against the model alone
func TestAgedInAllOrders(t *testing.T) {
	for _, x := range []struct {
		words   []int
		scripts [][]api.Call
	}{
		{words(last), [][]api.Call{{add(1)}, {add(-1)}, {sum}}},
		{words(last+one-1, half-1), [][]api.Call{{add(1)}, {sum}}},
		{words(one-1, half-1), [][]api.Call{{add(1)}, {add(1)}, {sum}}},
	} {
		for schedule := range game(x.words, x.scripts).Schedules {
			made(t, schedule, x.words, x.scripts)
		}
	}
}

// two threads whose turns change few times, at any steps
func TestFewChanges(t *testing.T) {
	again := 0
	for _, x := range []struct {
		shards  int
		scripts [][]api.Call
	}{
		{1, [][]api.Call{{add(1), sum, add(-1)}, {sum, add(2), sum}}},
		{2, [][]api.Call{{sum, add(3), sum}, {add(1), add(-1), add(5)}}},
		{3, [][]api.Call{{add(1), add(-1), add(1)}, {add(7), sum, sum}}},
	} {
		for first := range 12 {
			for second := range 14 {
				for third := range 8 {
					schedule := slices.Concat(times(first, 0), times(second, 1), times(third, 0), times(100, 1))
					again += follows(t, schedule, x.shards, x.scripts).again
				}
			}
		}
	}
	if again < 100 {
		t.Errorf("only %d Sums looked again", again)
	}
}

// P10.5, by free threads at one time: nothing is lost, and of numbers that grow no Sum is below one ahead of it
func TestManyFreely(t *testing.T) {
	const rounds = 2000
	for _, shards := range []int{1, 2, 3, api.MaxThreads, api.MaxShards} {
		c := counter.New(nil, shards)
		fell := make([]int, api.MaxThreads)
		var none *turn.World
		none.Run(times(api.MaxThreads, func(x *turn.Thread) {
			seen := 0
			for i := range rounds {
				c.Add(x, x.Id()+i)
				if i%50 == 0 {
					s := c.Sum(x)
					fell[x.Id()] += trial.Number(s < seen+x.Id()+i)
					seen = s
				}
			}
		}))
		all := api.MaxThreads*rounds*(rounds-1)/2 + rounds*api.MaxThreads*(api.MaxThreads-1)/2
		if got := c.Sum(turn.Free(3)); got != all || slices.Max(fell) > 0 {
			t.Errorf("%d shards: %d, not %d; %v Sums fell", shards, got, all, fell)
		}
	}
}

// P10.4, freely: one adds 1 to a shard, and then takes it from another one, so that there is never another sum than 0 and 1
func TestAtOneTimeFreely(t *testing.T) {
	const rounds = 20000
	for _, shards := range []int{2, 3, api.MaxShards} {
		c := counter.New(nil, shards)
		var ended atomic.Bool
		adds := func(*turn.Thread) {
			for i := range rounds {
				c.Add(turn.Free(i%api.MaxThreads), 1)
				c.Add(turn.Free(i%api.MaxThreads+1), -1)
			}
			ended.Store(true)
		}
		strange := make([]int, 3)
		sums := func(x *turn.Thread) {
			for !ended.Load() {
				s := c.Sum(x)
				strange[x.Id()] += trial.Number(s != 0 && s != 1)
			}
		}
		var none *turn.World
		none.Run([]func(*turn.Thread){adds, sums, sums})
		if got := c.Sum(turn.Free(0)); got != 0 || slices.Max(strange) > 0 {
			t.Errorf("%d shards: %d in the end, %v strange sums", shards, got, strange)
		}
	}
}
