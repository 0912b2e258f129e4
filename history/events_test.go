package history_test

import (
	"math"
	"slices"
	"testing"

	"butler/api"
	"butler/cell"
	"butler/history"
	"butler/turn"
)

// played is what Of is handed.
type played struct {
	scripts [][]api.Call
	answers [][]api.Answer
	trace   []api.Step
}

func begin(thread, i int) api.Step {
	return api.Step{Thread: thread, Cell: -1, Op: api.StepBegin, Old: i}
}

func end(thread, i int, code api.Errno) api.Step {
	return api.Step{Thread: thread, Cell: -1, Op: api.StepEnd, Old: i, New: int(code)}
}

func load(thread int) api.Step { return api.Step{Thread: thread, Op: api.StepLoad} }

// is holds what Of tells of it against what it is to be.
func (p played) is(t *testing.T, want []api.Event) {
	t.Helper()
	if got, e := history.Of(p.scripts, p.answers, p.trace); e != api.OK || !slices.Equal(got, want) {
		t.Errorf("%v:\n%v, error %d, is to be\n%v", p, got, e, want)
	}
}

// none holds that Of tells nothing of it.
func (p played) none(t *testing.T) {
	t.Helper()
	if got, e := history.Of(p.scripts, p.answers, p.trace); e != api.ErrHistory || len(got) != 0 {
		t.Errorf("%v: %v, error %d", p, got, e)
	}
}

// sample is two threads: of three calls of the one the second does not end, the other has one.
func sample() played {
	return played{
		[][]api.Call{{{Op: 1, A: 5, B: 6, C: 7}, {Op: -2, A: math.MinInt, B: math.MaxInt}, {Op: 4}}, {{Op: 3, A: 8}}},
		[][]api.Answer{{{Value: 9}, {Code: api.ErrLatchLow, Value: -3}, {Code: 1}}, {{Code: api.ErrArg, Value: 2}}},
		[]api.Step{load(0), begin(0, 0), begin(1, 0), load(0), end(0, 0, 0), end(1, 0, 1), begin(0, 1)},
	}
}

// P3.2

func TestOf(t *testing.T) {
	p := sample()
	p.is(t, []api.Event{event(0, 1, 5, 6, 1, 4, 0, 9), event(1, 3, 8, 0, 2, 5, 1, 2), event(0, -2, math.MinInt, math.MaxInt, 6, -1, 4, 0)})
	p.trace = append(p.trace, load(1), end(0, 1, api.ErrLatchLow))
	p.is(t, []api.Event{event(0, 1, 5, 6, 1, 4, 0, 9), event(1, 3, 8, 0, 2, 5, 1, 2), event(0, -2, math.MinInt, math.MaxInt, 6, 8, api.ErrLatchLow, -3)})
	p.trace = append(p.trace, begin(0, 2), end(0, 2, 1))
	p.is(t, []api.Event{event(0, 1, 5, 6, 1, 4, 0, 9), event(1, 3, 8, 0, 2, 5, 1, 2), event(0, -2, math.MinInt, math.MaxInt, 6, 8, api.ErrLatchLow, -3), event(0, 4, 0, 0, 9, 10, 1, 0)})
}

// nothing, and next to nothing
func TestOfNothing(t *testing.T) {
	played{}.is(t, nil)
	played{[][]api.Call{}, [][]api.Answer{}, []api.Step{}}.is(t, nil)
	played{nil, nil, []api.Step{load(0), {Thread: -1, Cell: -1, Op: api.StepStuck}, {Op: 0}, {Thread: 77, Op: 8}, {Op: 11}, {Op: 12}, {Op: math.MinInt}}}.is(t, nil)
	played{[][]api.Call{nil, {}}, [][]api.Answer{{}, nil}, nil}.is(t, nil)
	played{[][]api.Call{nil, {}}, [][]api.Answer{{}, nil}, []api.Step{begin(0, 0)}}.none(t)
	played{[][]api.Call{nil, {}}, [][]api.Answer{{}, nil}, []api.Step{end(1, 0, 0)}}.none(t)
	played{nil, nil, []api.Step{begin(0, 0)}}.none(t)
	played{nil, nil, []api.Step{end(0, 0, 0)}}.none(t)
	// calls that have no notes
	p := sample()
	p.trace = nil
	p.is(t, nil)
	// scripts with no calls beside others
	played{[][]api.Call{{}, {{Op: 2}}}, [][]api.Answer{{}, {{Value: 3}}}, []api.Step{begin(1, 0), end(1, 0, 0)}}.is(t, []api.Event{event(1, 2, 0, 0, 0, 1, 0, 3)})
}

// what is stuck has not ended, whatever its notes and its answer's Value say
func TestOfStuck(t *testing.T) {
	p := played{[][]api.Call{{{Op: 1, A: 2}, {Op: 2}}}, [][]api.Answer{{{Code: api.ErrStuck, Value: 7}, {Code: api.ErrStuck}}}, []api.Step{begin(0, 0)}}
	p.is(t, []api.Event{event(0, 1, 2, 0, 0, -1, 4, 0)})
	p.trace = append(p.trace, end(0, 0, 4))
	p.is(t, []api.Event{event(0, 1, 2, 0, 0, -1, 4, 0)})
	p.trace = append(p.trace, begin(0, 1))
	p.is(t, []api.Event{event(0, 1, 2, 0, 0, -1, 4, 0), event(0, 2, 0, 0, 2, -1, 4, 0)})
	p.trace[1].New = 0
	p.none(t)
}

// neither the Cell of a note is looked at, nor what else is in the trace
func TestOfOtherSteps(t *testing.T) {
	p := sample()
	want, _ := history.Of(p.scripts, p.answers, p.trace)
	for i := range p.trace {
		p.trace[i].Cell = 40 + i
	}
	p.is(t, want)
	for _, op := range []int{0, 1, 2, 3, 4, 5, 6, 7, 8, 11, 12, -1, 13, math.MaxInt, math.MinInt} {
		for _, thread := range []int{0, 1, 2, -1, math.MaxInt} {
			p.trace[0] = api.Step{Thread: thread, Cell: 3, Op: op, Old: 5, New: 6}
			p.trace[3] = p.trace[0]
			p.is(t, want)
		}
	}
}

// answers of another length than the scripts
func TestOfLengths(t *testing.T) {
	full := sample()
	for _, change := range []func(p *played){
		func(p *played) { p.answers = p.answers[:1] },
		func(p *played) { p.answers = nil },
		func(p *played) { p.answers = append(p.answers, nil) },
		func(p *played) { p.scripts = append(p.scripts, nil) },
		func(p *played) { p.scripts = p.scripts[:1] },
		func(p *played) { p.answers[0] = p.answers[0][:2] },
		func(p *played) { p.answers[0] = append(p.answers[0], api.Answer{}) },
		func(p *played) { p.answers[1] = nil },
		func(p *played) { p.answers[1] = append(p.answers[1], api.Answer{}) },
		func(p *played) { p.answers[0], p.answers[1] = p.answers[1], p.answers[0] },
		func(p *played) { p.scripts[1] = nil },
	} {
		p := sample()
		change(&p)
		p.none(t)
		p.trace = nil
		p.none(t)
	}
	full.scripts, full.answers = append(full.scripts, nil), append(full.answers, nil)
	want, e := history.Of(full.scripts[:2], full.answers[:2], full.trace)
	if e != api.OK {
		t.Fatal(e)
	}
	full.is(t, want)
}

// notes that may not be where they are
func TestOfNotes(t *testing.T) {
	for i, trace := range [][]api.Step{
		{begin(2, 0)}, {begin(-1, 0)}, {end(2, 0, 0)}, {begin(math.MaxInt, 0)}, {begin(math.MinInt, 0)},
		{end(0, 0, 0)},
		{begin(0, 0), begin(0, 0)}, {begin(0, 0), begin(0, 1)},
		{begin(0, 0), end(1, 0, 1)},
		{begin(0, 1)}, {begin(0, -1)}, {begin(1, 1)}, {begin(0, 3)}, {begin(0, math.MinInt)},
		{begin(0, 0), end(0, 1, 0)}, {begin(0, 0), end(0, 1, 50)}, {begin(0, 0), end(0, -1, 0)},
		{begin(0, 0), end(0, 0, 0), end(0, 0, 0)}, {begin(0, 0), end(0, 0, 0), end(0, 1, 50)},
		{begin(0, 0), end(0, 0, 0), begin(0, 0)}, {begin(0, 0), end(0, 0, 0), begin(0, 2)},
		{begin(1, 0), end(1, 0, 1), begin(1, 1)}, // it has one call
		{begin(1, 0), end(1, 0, 1), begin(1, 0)},
		{begin(1, 0), end(1, 0, 1), end(1, 1, 0)},
		{begin(0, 0), end(0, 0, 0), begin(0, 1), end(0, 1, 50), begin(0, 2), end(0, 2, 1), begin(0, 3)},
		{{Op: api.StepBegin, New: 1}}, {{Op: api.StepBegin, New: -1}}, {{Op: api.StepBegin, New: 4}}, {{Thread: 1, Op: api.StepBegin, New: 1}},
		{begin(0, 0), end(0, 0, 1)}, {begin(0, 0), end(0, 0, 9)}, {begin(0, 0), end(0, 0, 4)},
		{begin(1, 0), end(1, 0, 0)}, {begin(1, 0), end(1, 0, 2)}, {begin(1, 0), end(1, 0, 4)},
		{begin(1, 0), end(1, 0, 1), begin(0, 0), end(0, 0, 50)},
	} {
		p := sample()
		p.trace = trace
		p.none(t)
		p.trace = append(append([]api.Step{load(0)}, trace...), load(1))
		p.none(t)
		p.trace = slices.Clone(trace[:len(trace)-1]) // it was the last one
		if _, e := history.Of(p.scripts, p.answers, p.trace); e != api.OK {
			t.Errorf("%d: without its last note: error %d", i, e)
		}
	}
}

// what Plays of cells told, against what their traces show one by one
func TestOfPlays(t *testing.T) {
	s := source(11)
	open := 0
	for range 1500 {
		var p played
		for range 1 + s.below(4) {
			var calls []api.Call
			for range s.below(5) {
				calls = append(calls, api.Call{Op: s.one(1, 2, 3, 4, 5, 6, 6, 9), A: s.one(0, 1), B: s.one(0, 1, 2), C: s.one(0, 1)})
			}
			p.scripts = append(p.scripts, calls)
		}
		var schedule []int
		for range s.below(20) {
			schedule = append(schedule, s.below(4))
		}
		w := turn.New(schedule)
		p.answers, _ = cell.Play(w, []int{0, 0}, p.scripts)
		p.trace = w.Trace()
		want := p.events()
		p.is(t, want)
		for _, x := range want {
			if x.End == -1 {
				open++
			}
		}
		p.trace = p.trace[:s.below(len(p.trace)+1)] // as far as it had come
		p.is(t, p.events())
	}
	if open < 100 {
		t.Errorf("only %d calls were stuck", open)
	}
}

// events looks each call's notes up in the whole trace.
func (p played) events() []api.Event {
	var l []api.Event
	for i, calls := range p.scripts {
		for j, c := range calls {
			x := event(i, c.Op, c.A, c.B, slices.Index(p.trace, begin(i, j)), -1, api.ErrStuck, 0)
			a := p.answers[i][j]
			if a.Code != api.ErrStuck {
				x.End = slices.Index(p.trace, end(i, j, a.Code))
			}
			if x.End != -1 {
				x.Answer = a
			}
			if x.Begin != -1 {
				l = append(l, x)
			}
		}
	}
	slices.SortFunc(l, func(x, y api.Event) int { return x.Begin - y.Begin })
	return l
}

// P3.3

// room makes a list of what it is handed, with spare room behind.
func room[T any](l []T, spare T) []T { return append(slices.Clone(l), spare, spare, spare)[:len(l)] }

func TestOfKeeps(t *testing.T) {
	p := sample()
	for i := range p.scripts {
		p.scripts[i] = room(p.scripts[i], api.Call{Op: 77})
		p.answers[i] = room(p.answers[i], api.Answer{Code: 77})
	}
	p.scripts = room(p.scripts, []api.Call{{Op: 78}})
	p.answers = room(p.answers, []api.Answer{{Code: 78}})
	p.trace = room(p.trace, api.Step{Op: 79})
	first, e := history.Of(p.scripts, p.answers, p.trace)
	if e != api.OK {
		t.Fatal(e)
	}
	was := sample()
	want, _ := history.Of(was.scripts, was.answers, was.trace)
	for i := range p.scripts {
		if !slices.Equal(p.scripts[i][:len(was.scripts[i])], was.scripts[i]) || p.scripts[i][:len(p.scripts[i])+1][len(p.scripts[i])].Op != 77 {
			t.Errorf("the script %d has become %v", i, p.scripts[i])
		}
		if !slices.Equal(p.answers[i], was.answers[i]) || p.answers[i][:len(p.answers[i])+1][len(p.answers[i])].Code != 77 {
			t.Errorf("the answers %d have become %v", i, p.answers[i])
		}
	}
	if !slices.Equal(p.trace, was.trace) || p.trace[:len(p.trace)+3][len(p.trace)].Op != 79 || p.trace[:len(p.trace)+3][len(p.trace)+2].Op != 79 {
		t.Errorf("the trace has become %v", p.trace)
	}
	if s := p.scripts[:3][2]; len(s) != 1 || s[0].Op != 78 {
		t.Errorf("the scripts' spare room has become %v", s)
	}
	if a := p.answers[:3][2]; len(a) != 1 || a[0].Code != 78 {
		t.Errorf("the answers' spare room has become %v", a)
	}
	// what is answered is the caller's alone
	again, _ := history.Of(p.scripts, p.answers, p.trace)
	clear(first[:cap(first)])
	if !slices.Equal(again, want) {
		t.Errorf("another answer has become %v", again)
	}
	p.is(t, want)
	// and what is handed in is not kept
	p.trace[1], p.scripts[0][0], p.answers[0][0] = api.Step{}, api.Call{}, api.Answer{}
	if !slices.Equal(again, want) {
		t.Errorf("the answer has become %v", again)
	}
}
