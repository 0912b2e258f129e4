package chain_test

import (
	"errors"
	"slices"
	"strconv"
	"testing"

	"butler/api"
	"butler/cell"
	"butler/chain"
	"butler/trial"
	"butler/turn"
)

// What follows is read off the traces alone, without the model.

// pair is a key, and what it was asked with.
type pair struct{ from, to int }

// reader goes through a trace, and keeps what was asked so far.
type reader struct {
	trial.Told
	n       int
	scripts [][]api.Call
	asked   map[pair]int // how often
	waits   map[int]int  // of each key that was asked: what with, the last time
	now     []current
	rings   int // how many Asks closed a ring that stayed
	told    int // how many were told
	torn    int // how many were told, though there was no ring when they were written down, nor when they ended
}

// current is the Ask that a thread is in.
type current struct {
	pair
	steps int
	at    int   // where its way has come to
	ring  []int // the keys of the ring that its Store closed, as long as none of them is asked with anything else
	shut  bool  // its Store closed one
}

func (r *reader) read() error {
	r.asked, r.waits, r.now = map[pair]int{}, map[int]int{}, make([]current, len(r.scripts))
	for i, s := range r.Trace {
		if s.Thread < 0 {
			return errors.New("stuck")
		}
		if err := r.step(&r.now[s.Thread], s); err != nil {
			return errors.New("at " + strconv.Itoa(i) + ": " + err.Error())
		}
	}
	return nil
}

func (r *reader) step(now *current, s api.Step) error {
	switch s.Op {
	case api.StepBegin:
		c := r.scripts[s.Thread][s.Old]
		*now = current{pair: pair{(c.A%r.n + r.n) % r.n, (c.B%r.n + r.n) % r.n}}
		return nil
	case api.StepEnd:
		return r.end(now, r.scripts[s.Thread][s.Old], r.Answers[s.Thread][s.Old])
	case api.StepStore:
		now.steps++
		return r.store(now, s)
	case api.StepLoad:
		now.steps++
		return r.load(now, s)
	}
	return errors.New("what no Ask does (P12.5: it awaits nothing)")
}

// store takes down what is asked; a ring that held another pair of that key is there no more.
func (r *reader) store(now *current, s api.Step) error {
	if now.steps != 1 || s.Cell != now.from || s.New != now.to+1 {
		return errors.New("it writes down what it should not")
	}
	if was, before := r.waits[now.from]; before && was != now.to {
		for i := range r.now {
			if slices.Contains(r.now[i].ring, now.from) {
				r.now[i].ring = nil
			}
		}
	}
	r.asked[now.pair]++
	r.waits[now.from] = now.to
	now.at = now.to
	now.ring = r.ring(now.from)
	now.shut = now.ring != nil
	return nil
}

// ring is that in which a key stands, if there is one.
func (r *reader) ring(key int) []int {
	ring := []int{key}
	for {
		next, some := r.waits[ring[len(ring)-1]]
		if next == key && some {
			return ring
		}
		if !some || slices.Contains(ring, next) {
			return nil
		}
		ring = append(ring, next)
	}
}

// load is the half of P12.4 which says by what an Ask goes.
func (r *reader) load(now *current, s api.Step) error {
	if now.steps < 2 || s.Cell != now.at || now.at == now.from {
		return errors.New("it looks where it should not")
	}
	if now.at = s.New - 1; now.at >= 0 && r.asked[pair{s.Cell, now.at}] == 0 {
		return errors.New("P12.4: it goes by a pair that nobody asked")
	}
	return nil
}

// end is P12.3 to P12.5 of a call that ends.
func (r *reader) end(now *current, c api.Call, x api.Answer) error {
	if c.Op != 1 {
		if now.steps != 0 || x != arg {
			return errors.New("there is no such call")
		}
		return nil
	}
	switch {
	case x != yes && x != no:
		return errors.New("an answer that there is not")
	case now.ring != nil && x != yes:
		return errors.New("P12.3: the ring is not seen")
	case x == yes && now.at != now.from:
		return errors.New("P12.4: it did not come back")
	case now.steps < 1 || now.steps > r.n+1:
		return errors.New("P12.5: it has " + strconv.Itoa(now.steps) + " steps")
	}
	r.rings += trial.Number(now.ring != nil)
	r.told += x.Value
	r.torn += trial.Number(x == yes && !now.shut && r.ring(now.from) == nil)
	return nil
}

// lastOfRings is P12.3, of the rings that stand there in the end: the Ask of their last Store is told.
func (r *reader) lastOfRings() error {
	last, answers := map[int]int{}, make([]int, len(r.Trace)) // of each key its last Store; of each Store the answer of its Ask
	going := make([]int, len(r.scripts))
	for i := len(r.Trace) - 1; i >= 0; i-- {
		switch s := r.Trace[i]; s.Op {
		case api.StepEnd:
			going[s.Thread] = r.Answers[s.Thread][s.Old].Value
		case api.StepStore:
			last[s.Cell] = max(last[s.Cell], i)
			answers[i] = going[s.Thread]
		}
	}
	for key := range r.n {
		ring, at := r.ring(key), 0
		for _, k := range ring {
			at = max(at, last[k])
		}
		if ring != nil && answers[at] != 1 {
			return errors.New("P12.3: nobody was told of the ring of " + strconv.Itoa(key))
		}
	}
	return nil
}

// follows plays, and asks for all that follows.
func follows(t *testing.T, schedule []int, n int, scripts [][]api.Call) *reader {
	t.Helper()
	told, e := player(n).Tell(schedule, scripts)
	if e != api.OK || told.Stuck {
		t.Fatal(schedule, n, scripts, e, told)
	}
	r := &reader{Told: told, n: n, scripts: scripts}
	for _, look := range []func() error{r.read, r.lastOfRings} {
		if err := look(); err != nil {
			t.Fatalf("%v, %d of %v: %v: %v", schedule, n, scripts, err, told)
		}
	}
	return r
}

func TestFollows(t *testing.T) {
	r := trial.Row(3)
	rings, told, torn := 0, 0, 0
	for range 12000 {
		n := r.One(1, 2, 3, 3, 4, 4, 5, 6, 12, api.MaxKeys)
		p := follows(t, r.Schedule(200), n, someAsks(&r, n, r.One(0, 0, 2), r.One(2, 3, 4, api.MaxThreads), 6, 1, 1, 1, 1+r.Below(2)))
		rings += p.rings
		told += p.told
		torn += p.torn
	}
	if min(rings, told-rings) < 1000 || torn < 100 {
		t.Errorf("the Plays are too tame: %d rings that stayed, %d were told, %d of them without a ring", rings, told, torn)
	}
}

func TestFollowsAtTheLimits(t *testing.T) {
	r := trial.Row(4)
	for _, schedule := range [][]int{nil, times(4000, 7, -3, 2, 2, 100)} {
		for _, n := range []int{1, 2, 7, 50, api.MaxKeys} {
			all, next := make([][]api.Call, api.MaxThreads), make([][]api.Call, api.MaxThreads)
			for i := range all {
				for j := range api.MaxCalls {
					k := r.Below(n)
					all[i] = append(all[i], ask(k, r.One(k+1, k+1, r.Below(n))))
					next[i] = append(next[i], ask(i+8*j, i+8*j+1))
				}
			}
			follows(t, schedule, n, all)
			follows(t, schedule, n, next)
		}
	}
}

// whatever the schedule: all orders there are, against the model, too
func TestInAllOrders(t *testing.T) {
	for _, x := range []struct {
		n       int
		scripts [][]api.Call
		torn    bool // is there an order in which somebody is told without a ring
	}{
		{1, [][]api.Call{asks(0, 0), asks(0, 0), asks(0, 0)}, false},
		{2, [][]api.Call{asks(0, 1), asks(1, 0)}, false},
		{2, [][]api.Call{asks(0, 1), asks(1, 0), asks(0, 1)}, false},
		{2, [][]api.Call{asks(0, 1), asks(1, 0, 1, 1)}, false},
		{2, [][]api.Call{asks(0, 1), asks(1, 1, 1, 0)}, false},
		{2, [][]api.Call{asks(0, 1), asks(1, 1), asks(1, 0)}, false},
		{3, [][]api.Call{asks(0, 1), asks(1, 2), asks(2, 0)}, false},
		{3, [][]api.Call{asks(0, 1, 1, 2), asks(2, 0)}, false},
		{3, [][]api.Call{asks(0, 1), asks(1, 0), asks(2, 1)}, false},
		{3, [][]api.Call{asks(0, 1), asks(1, 2, 2, 0)}, false},
		{3, [][]api.Call{asks(0, 1), asks(1, 0, 1, 2, 2, 0)}, false},
		{3, [][]api.Call{asks(0, 1), asks(1, 2, 1, 1, 2, 0)}, true},
		{4, [][]api.Call{asks(0, 1, 2, 3), asks(1, 2, 3, 0)}, false},
	} {
		many, torn := 0, 0
		for schedule := range model(x.n, x.scripts).Schedules {
			plays(t, schedule, x.n, x.scripts)
			torn += follows(t, schedule, x.n, x.scripts).torn
			many++
		}
		if many < 2 || (torn > 0) != x.torn {
			t.Errorf("%v: %d orders, in %d of them somebody is told without a ring", x, many, torn)
		}
	}
}

// two threads whose turns change few times, at any steps
func TestFewChanges(t *testing.T) {
	rings := 0
	for _, x := range []struct {
		n       int
		scripts [][]api.Call
	}{
		{3, [][]api.Call{asks(0, 1, 1, 2, 0, 2), asks(2, 0, 1, 0, 2, 2)}},
		{4, [][]api.Call{asks(0, 1, 1, 2), asks(2, 3, 3, 0)}},
		{5, [][]api.Call{asks(0, 1, 2, 3, 4, 0), asks(1, 2, 3, 4, 1, 1)}},
	} {
		for first := range 12 {
			for second := range 14 {
				for third := range 8 {
					schedule := slices.Concat(times(first, 0), times(second, 1), times(third, 0), times(100, 1))
					rings += follows(t, schedule, x.n, x.scripts).rings
				}
			}
		}
	}
	if rings < 1000 {
		t.Errorf("only %d rings", rings)
	}
}

// needs is what each key needs, one thing (-1: nothing).
type needs []int

// ringed tells whether a key is needed by itself.
func (l needs) ringed(key int) bool {
	x := l[key]
	for range l {
		if x < 0 || x == key {
			break
		}
		x = l[x]
	}
	return x == key
}

// waiter is the thread of a key: it asks for what the key needs, waits till that is done, unless it is told not to, and is done itself.
func (l needs) waiter(key int, c *chain.Chain, done []*cell.Cell, told []int) func(*turn.Thread) {
	return func(x *turn.Thread) {
		if need := l[key]; need >= 0 {
			if c.Ask(x, key, need) {
				told[key]++
			} else if !done[need].Until(x, 0) {
				return
			}
		}
		done[key].Store(x, 1)
	}
}

// wait lets a thread of each key wait, and tells which ones were told that they would wait for ever.
func (l needs) wait(w *turn.World) []int {
	c, told := chain.New(w, len(l)), make([]int, len(l))
	done := make([]*cell.Cell, len(l))
	var bodies []func(*turn.Thread)
	for key := range l {
		done[key] = cell.New(w, 0)
		bodies = append(bodies, l.waiter(key, c, done, told))
	}
	w.Run(bodies)
	return told
}

// right is nil, if in each ring somebody was told, and nobody outside of rings.
func (l needs) right(told []int) error {
	for key := range l {
		if !l.ringed(key) {
			if told[key] > 0 {
				return errors.New("P12.4: the key " + strconv.Itoa(key) + " is told that it is needed by itself")
			}
			continue
		}
		some := told[key]
		for x := l[key]; x != key; x = l[x] {
			some += told[x]
		}
		if some == 0 {
			return errors.New("P12.3: nobody in the ring of the key " + strconv.Itoa(key) + " is told")
		}
	}
	return nil
}

// someNeeds are such that have rings, mostly.
func someNeeds(r *trial.Row, n int) needs {
	l := make(needs, n)
	for key := range l {
		l[key] = r.One(r.Below(n), (key+1)%n, r.One(-1, (key+1)%n))
	}
	return l
}

// P12.3 and P12.4, as they are meant: if each waits for what it needs, unless it is told of a ring, nobody waits for ever, and who is told is in a ring
func TestNobodyWaitsForEver(t *testing.T) {
	r := trial.Row(6)
	all, one := 0, 0
	for range 6000 {
		l := someNeeds(&r, 1+r.Below(9))
		w := turn.New(r.Schedule(120))
		told := l.wait(w)
		if err := l.right(told); err != nil || w.Stuck() {
			t.Fatalf("%v: %v, stuck %v: %v", l, err, w.Stuck(), w.Trace())
		}
		sum := 0
		for _, x := range told {
			sum += x
		}
		all += trial.Number(sum > 1)
		one += trial.Number(sum == 1)
	}
	if min(all, one) < 1000 {
		t.Errorf("too tame: %d times several were told, %d times one", all, one)
	}
}

// the same by free threads at one time; by turns first, since freely a ring that is not seen would never end
func TestNobodyWaitsForEverFreely(t *testing.T) {
	r := trial.Row(7)
	for range 3000 {
		l := someNeeds(&r, r.One(2, 3, 4, 8))
		w := turn.New(nil)
		if err := errors.Join(l.right(l.wait(w)), l.right(l.wait(turn.New(times(8, 0))))); err != nil || w.Stuck() {
			t.Fatalf("%v: %v, stuck %v", l, err, w.Stuck())
		}
		if err := l.right(l.wait(nil)); err != nil {
			t.Fatalf("%v: %v", l, err)
		}
	}
}

// P12.5, freely: whoever asks for whatever at one time, all end; and who asks for itself is told
func TestManyFreely(t *testing.T) {
	const rounds = 3000
	for _, n := range []int{1, 2, 3, api.MaxKeys} {
		c := chain.New(nil, n)
		wrong := make([]int, api.MaxThreads)
		var none *turn.World
		none.Run(times(api.MaxThreads, func(x *turn.Thread) {
			r := trial.Row(x.Id())
			for range rounds {
				from, to := r.Below(n+1), r.Below(n+1)
				ring := c.Ask(x, from, to)
				wrong[x.Id()] += trial.Number(ring && max(from, to) == n) + trial.Number(!ring && from == to && from < n)
			}
		}))
		if slices.Max(wrong) > 0 {
			t.Errorf("%d keys: %v wrong answers", n, wrong)
		}
	}
}
