package history_test

import (
	"math"
	"slices"
	"testing"

	"butler/api"
	"butler/history"
)

// event is a call of a thread, from a time to another, with its answer.
func event(thread, op, a, b, begin, end int, code api.Errno, value int) api.Event {
	return api.Event{Thread: thread, Op: op, A: a, B: b, Begin: begin, End: end, Answer: answer(code, value)}
}

// row is events of one thread, one behind another: of each Op, A, B and its answer's Code and Value.
func row(l ...[5]int) []api.Event {
	var out []api.Event
	for i, x := range l {
		out = append(out, event(0, x[0], x[1], x[2], 2*i, 2*i+1, api.Errno(x[3]), x[4]))
	}
	return out
}

// tells holds an answer of Linear without an error against what it is to be.
func tells(t *testing.T, object, start int, l []api.Event, want bool) {
	t.Helper()
	if got, e := history.Linear(object, start, l); got != want || e != api.OK {
		t.Errorf("object %d, start %d, %v: %v, error %d; it is to be %v", object, start, l, got, e, want)
	}
}

// fails holds an error of Linear against what it is to be.
func fails(t *testing.T, object, start int, l []api.Event, want api.Errno) {
	t.Helper()
	if got, e := history.Linear(object, start, l); got || e != want {
		t.Errorf("object %d, start %d, %v: %v, error %d; it is to be the error %d", object, start, l, got, e, want)
	}
}

// P3.1

// the chapter's examples
func TestExamples(t *testing.T) {
	for _, x := range []struct {
		object, start int
		want          bool
		l             []api.Event
	}{
		{1, 0, true, []api.Event{event(0, 1, 5, 0, 0, 3, 0, 0), event(1, 1, 2, 0, 1, 2, 0, 5)}},
		{1, 0, false, []api.Event{event(0, 1, 5, 0, 0, 1, 0, 2), event(1, 1, 2, 0, 2, 3, 0, 0)}},
		{2, 0, true, []api.Event{event(0, 1, 7, 0, 0, -1, 0, 0), event(1, 2, 0, 0, 1, 2, 0, 7)}},
		{2, 0, false, []api.Event{event(0, 1, 7, 0, 0, 1, 0, 0), event(1, 2, 0, 0, 2, 3, 90, 0)}},
		{4, 1, true, []api.Event{event(0, 2, 0, 0, 0, 5, 0, 0), event(1, 1, 0, 0, 1, 2, 0, 0)}},
		{5, 1, true, []api.Event{event(0, 1, 0, 9, 0, 4, 70, 3), event(1, 2, 0, 3, 1, 2, 70, 3)}},
		{3, 0, true, nil},
		{3, 5, true, []api.Event{event(0, 1, -1001, 0, 0, 1, 0, 0), event(0, 2, 0, 0, 2, 3, 0, 4)}},
	} {
		tells(t, x.object, x.start, x.l, x.want)
	}
	fails(t, 6, 0, nil, api.ErrArg)
	fails(t, 3, 0, make([]api.Event, 13), api.ErrBig)
	fails(t, 3, 0, []api.Event{event(0, 2, 0, 0, 4, 3, 0, 0)}, api.ErrHistory)
	fails(t, 3, 0, []api.Event{event(0, 2, 0, 0, 0, 5, 0, 0), event(0, 2, 0, 0, 3, 8, 0, 0)}, api.ErrHistory)
}

// what each object answers call by call, and to nothing else
func TestObjects(t *testing.T) {
	for _, x := range []struct {
		object, start int
		l             []api.Event
	}{
		{1, 7, row([5]int{1, 5, 9, 0, 7}, [5]int{2, 3, 9, 0, 12}, [5]int{2, 3, 9, 0, -1}, [5]int{1, -20, 9, 0, 15}, [5]int{1, 0, 9, 0, -5}, [5]int{2, 1, 9, 0, -5}, [5]int{1, 0, 0, 0, -4})},
		{1, math.MaxInt, row([5]int{1, 1, 0, 0, math.MaxInt}, [5]int{1, -1, 0, 0, math.MinInt}, [5]int{1, math.MaxInt, 0, 0, math.MaxInt}, [5]int{1, math.MinInt, 0, 0, -2}, [5]int{1, 0, 0, 0, math.MaxInt - 1})},
		{1, math.MinInt, row([5]int{1, math.MinInt, 0, 0, math.MinInt}, [5]int{1, 0, 0, 0, 0})},
		{2, 0, row([5]int{2, 9, 9, 90, 0}, [5]int{1, 5, 9, 0, 0}, [5]int{1, 6, 9, 0, 0}, [5]int{1, 7, 9, 80, 0}, [5]int{2, 9, 9, 0, 6}, [5]int{1, -8, 9, 0, 0}, [5]int{2, 9, 9, 0, -8}, [5]int{2, 9, 9, 0, 5}, [5]int{2, 9, 9, 90, 0}, [5]int{1, math.MinInt, 0, 0, 0}, [5]int{2, 0, 0, 0, math.MinInt})},
		{2, 0, row([5]int{1, 1, 0, 0, 0}, [5]int{1, 2, 0, 0, 0}, [5]int{1, 3, 0, 0, 0}, [5]int{1, 4, 0, 0, 0}, [5]int{1, 5, 0, 0, 0}, [5]int{1, 6, 0, 0, 0}, [5]int{2, 0, 0, 0, 6}, [5]int{2, 0, 0, 0, 5}, [5]int{2, 0, 0, 0, 4}, [5]int{2, 0, 0, 0, 3}, [5]int{2, 0, 0, 0, 2}, [5]int{2, 0, 0, 0, 1})},
		{2, 0, row([5]int{1, 1, 0, 0, 0}, [5]int{1, 2, 0, 0, 0}, [5]int{1, 3, 0, 0, 0}, [5]int{1, 4, 0, 0, 0}, [5]int{2, 0, 0, 0, 4}, [5]int{1, 5, 0, 0, 0}, [5]int{1, 6, 0, 0, 0}, [5]int{2, 0, 0, 0, 6}, [5]int{2, 0, 0, 0, 5}, [5]int{2, 0, 0, 0, 3})},
		{3, 3, row([5]int{2, 9, 9, 0, 3}, [5]int{1, 999, 9, 0, 0}, [5]int{2, 9, 9, 0, 1002}, [5]int{1, 1000, 9, 0, 0}, [5]int{2, 9, 9, 0, 1002}, [5]int{1, -1001, 9, 0, 0}, [5]int{2, 0, 0, 0, 1001}, [5]int{1, -999, 9, 0, 0}, [5]int{1, 123456, 0, 0, 0}, [5]int{2, 0, 0, 0, 458})},
		{3, math.MaxInt, row([5]int{1, math.MaxInt, 0, 0, 0}, [5]int{2, 0, 0, 0, math.MinInt + 806}, [5]int{1, math.MinInt, 0, 0, 0}, [5]int{2, 0, 0, 0, math.MaxInt - 1})},
		{4, 2, row([5]int{1, 9, 9, 0, 0}, [5]int{1, 9, 9, 0, 0}, [5]int{1, 9, 9, 50, 0}, [5]int{2, 9, 9, 0, 0}, [5]int{1, 9, 9, 50, 0}, [5]int{2, 9, 9, 0, 0})},
		{4, math.MaxInt, row([5]int{1, 0, 0, 0, 0}, [5]int{1, 0, 0, 0, 0})},
		{5, 1, row([5]int{1, 0, 5, 0, 5}, [5]int{2, 7, 6, 0, 5}, [5]int{3, -7, 6, 0, 5}, [5]int{4, -1, 6, 0, 5}, [5]int{1, math.MinInt, 6, 0, 5})},
		{5, 3, row([5]int{2, -1, 5, 70, 5}, [5]int{1, 2, 6, 70, 5}, [5]int{1, math.MaxInt, 6, 0, 6}, [5]int{3, 0, -4, 71, -4}, [5]int{4, -3, 6, 71, -4}, [5]int{3, 1, 6, 0, 6}, [5]int{2, math.MinInt, 6, 0, 6})},
		{5, 1000, row([5]int{4, 999, 5, 70, 72}, [5]int{1, -1, 5, 70, 72}, [5]int{2, 1999, 5, 70, 72}, [5]int{3, 0, 5, 71, 5}, [5]int{1, 1000, 4, 71, 5}, [5]int{4, -1000, 4, 71, 5}, [5]int{2, 1, 8, 70, 8})},
	} {
		tells(t, x.object, x.start, x.l, true)
		for i, was := range x.l {
			if x.object == 1 && was.Op == 2 && was.Answer.Value == -1 {
				continue
			}
			for _, a := range []api.Answer{answer(0, was.Answer.Value+1), answer(was.Answer.Code, was.Answer.Value-1), answer(1, was.Answer.Value), answer(4, 0), answer(50, 1), answer(80, 1), answer(90, 1), answer(-1, 0)} {
				x.l[i].Answer = a
				tells(t, x.object, x.start, x.l, false)
			}
			x.l[i] = was
		}
	}
}

// an answer of one kind where another one is to be
func TestOtherAnswers(t *testing.T) {
	for _, x := range []struct {
		object, start int
		l             []api.Event
		want          bool
	}{
		{1, 5, row([5]int{1, 3, 0, 0, -1}), false}, // only a try may be answered by -1
		{1, 5, row([5]int{2, 3, 0, 0, -1}, [5]int{1, 0, 0, 0, 8}), false},
		{1, -1, row([5]int{2, 3, 0, 0, -1}, [5]int{1, 0, 0, 0, 2}), true}, // got, and not got, look alike
		{1, -1, row([5]int{2, 3, 0, 0, -1}, [5]int{1, 0, 0, 0, -1}), true},
		{1, -1, row([5]int{2, 3, 0, 0, -1}, [5]int{2, -3, 0, 0, 2}, [5]int{2, 9, 0, 0, -1}, [5]int{1, 0, 0, 0, 8}), true},
		{1, -1, row([5]int{2, 3, 0, 0, -1}, [5]int{2, 4, 0, 0, -1}, [5]int{1, 0, 0, 0, 6}), false},
		{2, 0, row([5]int{2, 0, 0, 0, 0}), false},
		{2, 0, row([5]int{2, 0, 0, 80, 0}), false},
		{2, 0, row([5]int{1, 0, 0, 90, 0}), false},
		{2, 0, row([5]int{1, 5, 0, 80, 0}, [5]int{2, 0, 0, 0, 5}), false},
		{2, 0, row([5]int{1, 0, 0, 0, 0}, [5]int{2, 0, 0, 90, 0}), false},
		{2, 0, row([5]int{1, 0, 0, 0, 0}, [5]int{1, 1, 0, 0, 0}, [5]int{2, 0, 0, 0, 1}, [5]int{2, 0, 0, 90, 0}), false},
		{2, 0, row([5]int{1, 1, 0, 0, 0}, [5]int{1, 2, 0, 0, 0}, [5]int{2, 0, 0, 0, 1}), false},
		{3, 0, row([5]int{1, 1000, 0, 0, 0}, [5]int{2, 0, 0, 0, 1000}), false},
		{3, 0, row([5]int{1, -1, 0, 0, 0}, [5]int{2, 0, 0, 0, 999}), false},
		{4, 1, row([5]int{1, 0, 0, 50, 0}), false},
		{4, 0, row([5]int{1, 0, 0, 0, 0}), false},
		{4, 0, row([5]int{2, 0, 0, 50, 0}), false},
		{4, 1, row([5]int{2, 0, 0, 0, 0}), false},
		{4, 1, row([5]int{2, 0, 0, 4, 0}), false}, // no answer is not ErrStuck
		{5, 2, row([5]int{1, 0, 5, 0, 5}, [5]int{1, 1, 6, 0, 5}), false},
		{5, 2, row([5]int{1, 1, 5, 0, 5}, [5]int{1, -1, 6, 0, 6}), false},
		{5, 1, row([5]int{4, 0, 5, 70, 5}), false},
		{5, 1, row([5]int{4, 0, 5, 72, 72}), false},
		{5, 1, row([5]int{2, 0, 5, 0, 5}), false},
		{5, 1, row([5]int{3, 0, 5, 70, 5}), false},
	} {
		tells(t, x.object, x.start, x.l, x.want)
	}
}

// Ops that an object has not: over nothing explains them, not over they are nothing.
func TestOps(t *testing.T) {
	for object := 1; object <= 5; object++ {
		start := min(object/5, 1)
		for _, op := range []int{0, -1, 3, 4, 5, 6, 9, math.MaxInt, math.MinInt} {
			if object == 5 && op >= 3 && op <= 4 {
				continue
			}
			for _, a := range []api.Answer{{}, answer(0, 7), answer(1, 0), answer(4, 0), answer(0, -1)} {
				x := event(0, op, 0, 7, 0, 5, a.Code, a.Value)
				tells(t, object, start, []api.Event{x}, false)
				x.End = -1
				tells(t, object, start, []api.Event{x}, true)
			}
		}
	}
	// a once that has an answer has none for these either
	for _, op := range []int{0, 5, -1} {
		tells(t, 5, 1, row([5]int{1, 0, 7, 0, 7}, [5]int{op, 0, 7, 0, 7}), false)
	}
	// what is no call of the object makes no other call right or wrong
	tells(t, 2, 0, []api.Event{event(0, 3, 7, 0, 0, -1, 0, 0), event(1, 2, 0, 0, 1, 2, 0, 7)}, false)
	tells(t, 2, 0, []api.Event{event(0, 3, 7, 0, 0, -1, 0, 0), event(1, 2, 0, 0, 1, 2, 90, 0)}, true)
}

// events that are not over: each may have taken effect, or not, whatever its Answer says
func TestNotOver(t *testing.T) {
	for _, any := range []api.Answer{{}, answer(4, 0), answer(1, 7)} {
		not := func(thread, op, a, b, begin int) api.Event {
			return event(thread, op, a, b, begin, -1, any.Code, any.Value)
		}
		for _, x := range []struct {
			object, start int
			open          api.Event
			op, code      int // of a call that begins when the other one has begun
			values        []int
			wrong         []int
		}{
			{1, 0, not(1, 1, 5, 0, 1), 1, 0, []int{0, 5}, []int{-1, 1, 10}},
			{1, 0, not(1, 2, 5, 0, 1), 1, 0, []int{0, 5}, []int{-1, 10}},
			{1, 0, not(1, 2, 5, 0, 1), 2, 0, []int{0, 5, -1}, []int{4}},
			{2, 0, not(1, 1, 5, 0, 1), 2, 90, []int{0}, []int{5}},
			{2, 0, not(1, 1, 5, 0, 1), 2, 0, []int{5}, []int{0, 4}},
			{2, 0, not(1, 2, 5, 0, 1), 2, 90, []int{0}, nil},
			{3, 1, not(1, 1, 1005, 0, 1), 2, 0, []int{1, 6}, []int{5, 1006}},
			{3, 1, not(1, 2, 1005, 0, 1), 2, 0, []int{1}, []int{6}},
			{4, 1, not(1, 1, 0, 0, 1), 1, 0, []int{0}, nil},
			{4, 1, not(1, 1, 0, 0, 1), 1, 50, []int{0}, nil},
			{4, 1, not(1, 1, 0, 0, 1), 2, 0, []int{0}, nil},
			{4, 1, not(1, 2, 0, 0, 1), 2, 0, nil, []int{0}},
			{4, 2, not(1, 1, 0, 0, 1), 1, 50, nil, []int{0}},
			{5, 1, not(1, 1, 0, 5, 1), 2, 70, []int{0}, []int{5, 72}},
			{5, 1, not(1, 1, 0, 5, 1), 2, 0, []int{5}, []int{0}},
			{5, 1, not(1, 3, 0, 5, 1), 2, 71, []int{5}, []int{0}},
			{5, 1, not(1, 4, 0, 5, 1), 1, 70, []int{72}, []int{0, 5}},
			{5, 2, not(1, 1, 1, 5, 1), 2, 0, nil, []int{5}},
		} {
			for _, v := range append(slices.Clone(x.values), x.wrong...) {
				l := []api.Event{x.open, event(0, x.op, 0, 0, 1, 2, api.Errno(x.code), v)}
				tells(t, x.object, x.start, l, slices.Contains(x.values, v))
			}
		}
		// what has not begun when another is over takes no effect ahead of it
		tells(t, 2, 0, []api.Event{not(0, 1, 7, 0, 3), event(1, 2, 0, 0, 1, 2, 0, 7)}, false)
		tells(t, 2, 0, []api.Event{not(0, 1, 7, 0, 2), event(1, 2, 0, 0, 1, 2, 0, 7)}, true)
		// it takes effect once
		tells(t, 2, 0, []api.Event{not(0, 1, 7, 0, 0), event(1, 2, 0, 0, 1, 2, 0, 7), event(1, 2, 0, 0, 3, 4, 0, 7)}, false)
		// and behind what is ahead of it in its own thread
		tells(t, 2, 0, []api.Event{event(0, 1, 6, 0, 0, 1, 0, 0), not(0, 1, 7, 0, 2), event(1, 2, 0, 0, 0, 9, 0, 6), event(1, 2, 0, 0, 10, 11, 0, 7)}, true)
		tells(t, 2, 0, []api.Event{event(0, 1, 6, 0, 0, 1, 0, 0), not(0, 1, 7, 0, 2), event(1, 2, 0, 0, 3, 9, 0, 7), event(1, 2, 0, 0, 10, 11, 90, 0)}, false)
		// late: it may take effect behind what began long behind it
		tells(t, 4, 1, []api.Event{not(0, 1, 0, 0, 0), event(1, 1, 0, 0, 5, 6, 0, 0), event(1, 1, 0, 0, 7, 8, 50, 0)}, true)
		tells(t, 3, 0, []api.Event{not(0, 1, 4, 0, 0), event(1, 2, 0, 0, 5, 6, 0, 0), event(1, 2, 0, 0, 7, 8, 0, 4)}, true)
		tells(t, 3, 0, []api.Event{not(0, 1, 4, 0, 0), event(1, 2, 0, 0, 5, 6, 0, 4), event(1, 2, 0, 0, 7, 8, 0, 0)}, false)
		// none over
		tells(t, 4, 1, []api.Event{not(0, 2, 0, 0, 0), not(1, 2, 0, 0, 0), not(2, 9, 0, 0, 0)}, true)
	}
}

// when one is ahead of another
func TestTimes(t *testing.T) {
	pushPop := func(begin1, end1, begin2, end2 int) []api.Event {
		return []api.Event{event(0, 1, 7, 0, begin1, end1, 0, 0), event(1, 2, 0, 0, begin2, end2, 90, 0)}
	}
	for _, x := range []struct {
		l    []api.Event
		want bool
	}{
		{pushPop(0, 1, 2, 3), false},
		{pushPop(0, 1, 1, 2), true}, // an End at another's Begin is not ahead of it
		{pushPop(0, 1, 0, 1), true},
		{pushPop(0, 1, 0, 9), true},
		{pushPop(5, 6, 0, 1), true},
		{pushPop(0, 2, 1, 3), true},
		{pushPop(0, math.MaxInt, 1, 2), true},
		{pushPop(0, math.MaxInt-2, math.MaxInt-1, math.MaxInt), false},
		{pushPop(math.MaxInt-1, math.MaxInt, math.MaxInt-1, math.MaxInt), true},
	} {
		tells(t, 2, 0, x.l, x.want)
	}
	// one that is long among several that are short
	for at := range 4 {
		l := []api.Event{event(9, 1, 100, 0, 0, 20, 0, at)}
		for i := range 3 {
			v := i
			if i >= at {
				v += 100
			}
			l = append(l, event(i, 1, 1, 0, 1+3*i, 2+3*i, 0, v))
		}
		tells(t, 1, 0, l, true)
		l[3].Answer.Value++
		tells(t, 1, 0, l, false)
	}
	// many at the same time: each place is one's, whoever's
	var l []api.Event
	for i := range 12 {
		l = append(l, event(i, 1, 1, 0, 0, 1, 0, (7*i+5)%12))
	}
	tells(t, 1, 0, l, true)
	l[3].Answer = l[4].Answer
	tells(t, 1, 0, l, false)
}

func TestArgs(t *testing.T) {
	push := []api.Event{event(0, 1, 0, 0, 0, -1, 0, 0)}
	for _, l := range [][]api.Event{nil, push, make([]api.Event, 13), {event(0, 1, 0, 0, 1, 1, 0, 0)}} {
		for _, object := range []int{0, 6, -1, 7, math.MaxInt, math.MinInt} {
			for _, start := range []int{0, 1, -1} {
				fails(t, object, start, l, api.ErrArg)
			}
		}
		for _, x := range [][2]int{{2, 1}, {2, -1}, {2, math.MaxInt}, {2, math.MinInt}, {4, -1}, {4, math.MinInt}, {5, 0}, {5, -1}, {5, 1001}, {5, math.MaxInt}, {5, math.MinInt}} {
			fails(t, x[0], x[1], l, api.ErrArg)
		}
	}
	for _, x := range [][2]int{{1, 0}, {1, math.MaxInt}, {1, math.MinInt}, {2, 0}, {3, 0}, {3, math.MaxInt}, {3, math.MinInt}, {4, 0}, {4, math.MaxInt}, {5, 1}, {5, 1000}} {
		tells(t, x[0], x[1], nil, true)
		tells(t, x[0], x[1], []api.Event{}, true)
		tells(t, x[0], x[1], push, true)
		fails(t, x[0], x[1], make([]api.Event, 13), api.ErrBig)
		fails(t, x[0], x[1], make([]api.Event, 12), api.ErrHistory)
	}
}

// what is too much is told ahead of what is no history; twelve are not too many.
func TestBig(t *testing.T) {
	for object := 1; object <= 5; object++ {
		start := min(object/5, 1)
		var l []api.Event
		for i := range 13 {
			l = append(l, event(i, 1, 0, 0, 0, -1, 0, 0))
		}
		fails(t, object, start, l, api.ErrBig)
		tells(t, object, start, l[:12], true)
		tells(t, object, start, l[1:], true)
		l[0].Begin = -1
		fails(t, object, start, l, api.ErrBig)
		fails(t, object, start, l[:12], api.ErrHistory)
		fails(t, object, start, append(l, l...), api.ErrBig)
	}
}

func TestNoHistory(t *testing.T) {
	fine := event(7, 2, 0, 0, 0, 100, 0, 0)
	for i, x := range []struct {
		want bool // it is one
		l    []api.Event
	}{
		{true, []api.Event{event(0, 2, 0, 0, 0, 1, 0, 0)}},
		{true, []api.Event{event(0, 2, 0, 0, 0, -1, 0, 0)}},
		{true, []api.Event{event(-5, 2, 0, 0, 0, 1, 0, 0)}},
		{true, []api.Event{event(math.MinInt, 2, 0, 0, math.MaxInt, -1, 0, 0)}},
		{false, []api.Event{event(0, 2, 0, 0, -1, 1, 0, 0)}},
		{false, []api.Event{event(0, 2, 0, 0, -1, -1, 0, 0)}},
		{false, []api.Event{event(0, 2, 0, 0, math.MinInt, 3, 0, 0)}},
		{false, []api.Event{event(0, 2, 0, 0, 0, 0, 0, 0)}},
		{false, []api.Event{event(0, 2, 0, 0, 5, 5, 0, 0)}},
		{false, []api.Event{event(0, 2, 0, 0, 5, 4, 0, 0)}},
		{false, []api.Event{event(0, 2, 0, 0, 5, 0, 0, 0)}},
		{false, []api.Event{event(0, 2, 0, 0, 0, -2, 0, 0)}},
		{false, []api.Event{event(0, 2, 0, 0, 0, math.MinInt, 0, 0)}},
		{false, []api.Event{event(0, 2, 0, 0, -3, -2, 0, 0)}},
		{true, []api.Event{event(0, 2, 0, 0, 0, 1, 0, 0), event(0, 2, 0, 0, 2, 3, 0, 0)}},
		{true, []api.Event{event(0, 2, 0, 0, 0, 1, 0, 0), event(0, 2, 0, 0, 2, -1, 0, 0)}},
		{true, []api.Event{event(0, 2, 0, 0, 0, 1, 0, 0), event(1, 2, 0, 0, 0, 1, 0, 0)}},
		{true, []api.Event{event(0, 2, 0, 0, 0, -1, 0, 0), event(1, 2, 0, 0, 0, -1, 0, 0)}},
		{false, []api.Event{event(0, 2, 0, 0, 0, 1, 0, 0), event(0, 2, 0, 0, 0, 1, 0, 0)}},
		{false, []api.Event{event(0, 2, 0, 0, 0, 1, 0, 0), event(0, 2, 0, 0, 1, 2, 0, 0)}},
		{false, []api.Event{event(0, 2, 0, 0, 0, 9, 0, 0), event(0, 2, 0, 0, 3, 4, 0, 0)}},
		{false, []api.Event{event(0, 2, 0, 0, 0, 5, 0, 0), event(0, 2, 0, 0, 3, 8, 0, 0)}},
		{false, []api.Event{event(0, 2, 0, 0, 0, -1, 0, 0), event(0, 2, 0, 0, 2, 3, 0, 0)}},
		{false, []api.Event{event(0, 2, 0, 0, 0, -1, 0, 0), event(0, 2, 0, 0, 2, -1, 0, 0)}},
		{false, []api.Event{event(0, 2, 0, 0, 0, 3, 0, 0), event(0, 2, 0, 0, 2, -1, 0, 0)}},
		{false, []api.Event{event(0, 2, 0, 0, 0, 1, 0, 0), event(0, 2, 0, 0, 2, 3, 0, 0), event(0, 2, 0, 0, 1, 2, 0, 0)}},
		{false, []api.Event{event(0, 2, 0, 0, 0, 1, 0, 0), event(1, 2, 0, 0, 2, 3, 0, 0), event(0, 2, 0, 0, 1, 4, 0, 0)}},
	} {
		for range 2 {
			for _, l := range [][]api.Event{x.l, append([]api.Event{fine}, x.l...), append(slices.Clone(x.l), fine)} {
				if isHistory(l) != x.want {
					t.Errorf("%d: the test's own isHistory: %v", i, !x.want)
				}
				if x.want {
					tells(t, 3, 0, l, true)
				} else {
					fails(t, 3, 0, l, api.ErrHistory)
				}
			}
			slices.Reverse(x.l)
		}
	}
}

// many histories of each object against all orders, one by one
func TestAllOrders(t *testing.T) {
	s := source(3)
	for object := 1; object <= 5; object++ {
		var seen [2]int
		open := 0
		for range 6000 {
			start := s.start(object)
			l := s.history(object, start, s.one(2, 3, 4, 5))
			for range s.below(3) {
				s.spoil(object, l)
			}
			if !isHistory(l) {
				fails(t, object, start, l, api.ErrHistory)
				continue
			}
			want := linear(object, start, l)
			tells(t, object, start, l, want)
			if want {
				seen[0]++
			} else {
				seen[1]++
			}
			if slices.ContainsFunc(l, func(x api.Event) bool { return x.End == -1 }) {
				open++
			}
		}
		if seen[0] < 1000 || seen[1] < 1000 || open < 1000 {
			t.Errorf("object %d: the histories are too tame: %v, %d with events that are not over", object, seen, open)
		}
	}
}

// histories of up to twelve events that are linear by how they came to be
func TestLongHistories(t *testing.T) {
	s := source(4)
	full := 0
	for range 3000 {
		object := 1 + s.below(5)
		start := s.start(object)
		l := s.history(object, start, 12)
		tells(t, object, start, l, true)
		if len(l) == 12 {
			full++
		}
	}
	if full < 300 {
		t.Errorf("only %d histories of twelve events", full)
	}
}

// pushes side by side have more orders than can be tried one by one: 11 of them some forty millions
func TestManyOrders(t *testing.T) {
	for pushes := 0; pushes <= 12; pushes++ {
		var l []api.Event
		for i := range pushes {
			l = append(l, event(i, 1, i, 0, 0, 100, 0, 0))
		}
		for i := pushes; i < 12; i++ {
			l = append(l, event(i, 2, 0, 0, 0, -1, 0, 0))
		}
		tells(t, 2, 0, l, true)
		if pushes == 12 {
			continue
		}
		// nobody has pushed that
		l[11] = event(11, 2, 0, 0, 0, 100, 0, 99)
		tells(t, 2, 0, l, false)
		// all but some of the pops are ahead of a pop that finds nothing
		l[11] = event(11, 2, 0, 0, 101, 102, 90, 0)
		tells(t, 2, 0, l, pushes <= 11-pushes)
	}
}

// what was pushed first is popped last, however deep it lies
func TestDeep(t *testing.T) {
	for depth := range 7 {
		var pushes, pops []api.Event
		for i := range depth {
			pushes = append(pushes, event(0, 1, i, 0, 2*i, 2*i+1, 0, 0))
			pops = append(pops, event(0, 2, 0, 0, 100-2*i, 101-2*i, 0, i))
		}
		for many := 0; many <= depth; many++ { // how many pops there are
			l := append(slices.Clone(pushes), pops[depth-many:]...)
			tells(t, 2, 0, l, true)
			if len(l) == 12 {
				continue
			}
			tells(t, 2, 0, append(l, event(0, 2, 0, 0, 200, 201, 90, 0)), many == depth)
			tells(t, 2, 0, append(l, event(0, 2, 0, 0, 200, 201, 0, depth-many-1)), many < depth)
			tells(t, 2, 0, append(l, event(0, 2, 0, 0, 200, 201, 0, depth-many)), false)
			tells(t, 2, 0, append(l, event(0, 2, 0, 0, 200, -1, 0, 0)), true)
		}
	}
}

// P3.3

// what is handed in, with its spare room, stays as it was
func TestLinearKeeps(t *testing.T) {
	s := source(5)
	for range 300 {
		object := 1 + s.below(5)
		start := s.start(object)
		room := s.history(object, start, 12)
		for n := range len(room) + 1 {
			was := slices.Clone(room)
			first, e := history.Linear(object, start, room[:n])
			if !slices.Equal(room, was) {
				t.Fatalf("%v has become %v", was, room)
			}
			if again, e2 := history.Linear(object, start, room[:n:n]); again != first || e2 != e {
				t.Fatalf("%v: %v, then %v", was[:n], first, again)
			}
		}
	}
}

// P3.4

// one behind the other, in whatever order they stand in the list, by however many threads
func TestOneBehindTheOther(t *testing.T) {
	s := source(6)
	for object := 1; object <= 5; object++ {
		var seen [2]int
		for range 1500 {
			start := s.start(object)
			l := s.history(object, start, s.one(3, 6, 12))
			slices.SortFunc(l, func(x, y api.Event) int { return x.Begin - y.Begin })
			l = slices.DeleteFunc(l, func(x api.Event) bool { return x.End == -1 })
			var order []int
			for i := range l {
				l[i].Thread, l[i].Begin, l[i].End = s.one(0, 1, 2), 3*i, 3*i+s.one(1, 2)
				order = append(order, i)
			}
			want := gives(fresh(object, start), l, order)
			if want {
				seen[0]++
			} else {
				seen[1]++
			}
			tells(t, object, start, l, want)
			s.mix(l)
			tells(t, object, start, l, want)
		}
		if seen[0] < 100 || seen[1] < 100 {
			t.Errorf("object %d: the histories are too tame: %v", object, seen)
		}
	}
}

// all orders in the list
func TestOrderIsNotSeen(t *testing.T) {
	s := source(7)
	for range 300 {
		object := 1 + s.below(5)
		start := s.start(object)
		l := s.history(object, start, 5)
		s.spoil(object, l)
		want, code := history.Linear(object, start, l)
		orders(len(l), nil, func(order []int) {
			if len(order) < len(l) {
				return
			}
			var other []api.Event
			for _, i := range order {
				other = append(other, l[i])
			}
			if got, e := history.Linear(object, start, other); got != want || e != code {
				t.Fatalf("%v: %v, error %d; %v: %v, error %d", l, want, code, other, got, e)
			}
		})
	}
}

// P3.5

func TestWithoutItsLast(t *testing.T) {
	s := source(8)
	for range 1500 {
		object := 1 + s.below(5)
		start := s.start(object)
		l := s.history(object, start, 10)
		last := 0
		for _, x := range l {
			last = max(last, x.Begin, x.End)
		}
		for place := range last + 2 {
			var first []api.Event
			for _, x := range l {
				if x.Begin >= place {
					continue
				}
				if x.End >= place {
					x.End = -1
				}
				first = append(first, x)
			}
			tells(t, object, start, first, true)
		}
	}
}

func TestStretched(t *testing.T) {
	s := source(9)
	stretched := 0
	for range 4000 {
		object := 1 + s.below(5)
		start := s.start(object)
		l := s.history(object, start, 10)
		for range 8 * len(l) {
			i := s.below(len(l))
			was := l[i]
			if s.below(2) == 0 {
				l[i].Begin -= s.one(1, 2, 5, l[i].Begin)
			}
			if was.End != -1 && s.below(2) == 0 {
				l[i].End += s.one(1, 3, 9, math.MaxInt-was.End, -1-was.End)
			}
			if !isHistory(l) || l[i] == was {
				l[i] = was
				continue
			}
			stretched++
			tells(t, object, start, l, true)
		}
	}
	if stretched < 3000 {
		t.Errorf("only %d were stretched", stretched)
	}
}
